/-
  What follows and sorted tell.
-/
import Derived.Test.YtjdhdeffiigpbaaDoorTSortW
import Derived.Test.YtjdhdeffiigpbaaDoorOfW
namespace Go.Proofs.YtjdhdeffiigpbaaDoor
open Go Go.RowKit Go.BigFrame Nb

theorem bytesLess_ltB : ∀ x y : List UInt8, Op.bytesLess x y = ltB x y
  | [], [] => rfl
  | [], _ :: _ => rfl
  | _ :: _, [] => rfl
  | a :: x, b :: y => by
    have ih := bytesLess_ltB x y
    simp only [Op.bytesLess, ltB, ih]
    by_cases h1 : a < b
    · simp [h1]
    · by_cases h2 : b < a
      · have : ¬ a = b := fun e => by subst e; exact UInt8.lt_irrefl _ h2
        simp [h1, h2, this]
      · have : a = b := UInt8.le_antisymm (UInt8.not_lt.1 h2) (UInt8.not_lt.1 h1)
        subst this
        simp [UInt8.lt_irrefl]
def folB (x y : ByteArray) : Bool := x.size == y.size && ltB x.data.toList y.data.toList
set_option maxRecDepth 4000 in
theorem follows_any (x y : ByteArray) (w : World) : Calls Tryd.prog 43 #[.string x, .string y] w fun e w' => e = .returned (.bool (folB x y)) ∧ w' = w := by
  have hl := less_any x y w
  rw [bytesLess_ltB] at hl
  by_cases h : x.size = y.size
  · have hi : (y.size : Int) = x.size := by omega
    have HF : Hid (folB x y = ltB x.data.toList y.data.toList) := by
      unfold Hid folB
      rw [h]; simp
    obtain ⟨r, hr⟩ : ∃ r, ltB x.data.toList y.data.toList = r := ⟨_, rfl⟩
    rw [hr] at hl HF
    clear hr
    go_enter Tryd.func43, Tryd.ntmps43
    go_wp2_with fail
    refine hl.mono ?_
    rintro e w1 ⟨rfl, rfl⟩
    go_wp2_with fail
    go_ret
    exact ⟨by rw [HF.out]; rfl, rfl⟩
  · have hi : ¬ (y.size : Int) = x.size := by omega
    have HF : Hid (folB x y = false) := by
      unfold Hid folB
      rw [show (x.size == y.size) = false from beq_eq_false_iff_ne.2 h]; rfl
    clear hl
    go_enter Tryd.func43, Tryd.ntmps43
    go_wp2_with fail
    go_ret
    exact ⟨by rw [HF.out]; rfl, rfl⟩
/-- What is asked of sorted pairs, one by one. -/
def okAt (L : List Pr) (i : Nat) : Prop := ∀ x, L[i]? = some x → x.2.size ≠ 0 ∧ rightL (kb x) = true ∧ (0 < i → ∀ q, L[i - 1]? = some q → folB q.1 x.1 = true)
theorem folB_iff (p q : Pr) : folB p.1 q.1 = true ↔ (kb p).length = (kb q).length ∧ ltB (kb p) (kb q) = true := by
  unfold folB kb
  simp only [Bool.and_eq_true, beq_iff_eq, sizeB]
theorem vb_size (p : Pr) : vb p = [] ↔ p.2.size = 0 := by
  unfold vb
  rw [← sizeB]
  exact List.length_eq_zero_iff.symm
theorem may_of_ok {L : List Pr} (h : ∀ i, okAt L i) : Rise L ∧ ∃ n, May n L := by
  have hadj : ∀ i (hi : i + 1 < L.length), (kb L[i]).length = (kb L[i + 1]).length ∧ ltB (kb L[i]) (kb L[i + 1]) = true := fun i hi =>
    (folB_iff _ _).1 ((h (i + 1) _ (List.getElem?_eq_getElem hi)).2.2 (by omega) _ (by simp))
  have hup : ∀ d i (hi : i + 1 + d < L.length), (kb L[i]).length = (kb L[i + 1 + d]).length ∧ ltB (kb L[i]) (kb L[i + 1 + d]) = true := by
    intro d
    induction d with
    | zero => exact fun i hi => hadj i hi
    | succ d ih =>
      intro i hi
      have h1 := ih i (by omega)
      have h2 := hadj (i + 1 + d) hi
      exact ⟨h1.1.trans h2.1, ltB_trans h1.2 h2.2⟩
  have hr : Rise L := by
    refine List.pairwise_iff_getElem.2 fun i j hi hj hij => ?_
    have := hup (j - i - 1) i (by omega)
    have e : i + 1 + (j - i - 1) = j := by omega
    simp only [e] at this
    exact this.2
  refine ⟨hr, (L.head?.map fun p => (kb p).length).getD 0, ?_, ?_, ?_, hr.apart⟩
  · intro p hp
    obtain ⟨i, hi, rfl⟩ := List.mem_iff_getElem.1 hp
    have h0 : (L.head?.map fun p => (kb p).length).getD 0 = (kb L[0]).length := by
      rw [List.head?_eq_getElem?, List.getElem?_eq_getElem (by omega)]; rfl
    rw [h0]
    cases i with
    | zero => rfl
    | succ i =>
      have := hup i 0 (by omega)
      have e : 0 + 1 + i = i + 1 := by omega
      simp only [e] at this
      exact this.1.symm
  · intro p hp
    obtain ⟨i, hi, rfl⟩ := List.mem_iff_getElem.1 hp
    exact (h i _ (List.getElem?_eq_getElem hi)).2.1
  · intro p hp
    obtain ⟨i, hi, rfl⟩ := List.mem_iff_getElem.1 hp
    exact fun e => (h i _ (List.getElem?_eq_getElem hi)).1 ((vb_size _).1 e)
theorem ok_of_may {L : List Pr} {n : Nat} (hm : May n L) (hs : L.Pairwise leP) (i : Nat) : okAt L i := by
  intro x hx
  have hxm := List.mem_of_getElem? hx
  refine ⟨fun e => hm.val x hxm ((vb_size _).2 e), hm.nib x hxm, fun hi q hq => (folB_iff _ _).2 ?_⟩
  have hqm := List.mem_of_getElem? hq
  refine ⟨by rw [hm.len q hqm, hm.len x hxm], ?_⟩
  obtain ⟨h1, rfl⟩ := List.getElem?_eq_some_iff.1 hx
  obtain ⟨h2, rfl⟩ := List.getElem?_eq_some_iff.1 hq
  have ha := List.pairwise_iff_getElem.1 hm.apart (i - 1) i h2 h1 (by omega)
  have hle := List.pairwise_iff_getElem.1 hs (i - 1) i h2 h1 (by omega)
  cases e : ltB (kb L[i - 1]) (kb L[i]) with
  | true => rfl
  | false => exact absurd (ltB_total e hle) ha
def mayL (L : List Pr) : Prop := ∃ n, May n L
theorem zeroPair : ∀ w, (zeroValue 33).run Tryd.prog w = .ok (.agg #[.string ⟨#[]⟩, .string ⟨#[]⟩]) w := (zero_of_info (n := 2) (by kernel_rfl)).1
theorem infoPair2 : (Tryd.prog.info? 33).map (·.size) = some 2 := by kernel_rfl
theorem run_notT (b : Bool) (w : World) : (Op.unary UnOp.not (.bool b)).run Tryd.prog w = .ok (.bool !b) w := rfl
/-- How the checks of sorted pairs go. -/
def SrtPost (w0 : World) (L : List Pr) (e : Ending) (w' : World) : Prop :=
  ∃ b v', e = .returned (.tuple #[v', .bool b]) ∧ (b = true → mayL L ∧ ∃ L', L.Perm L' ∧ Rise L' ∧ mayL L' ∧ PairsAt w' v' L') ∧ (b = false → ¬ mayL L) ∧ Below w0.heap.size w0 w'
set_option maxRecDepth 8000 in
set_option maxHeartbeats 2000000 in
theorem sorted_any (v : Value) (L : List Pr) (w : World) (h : PairsAt w v L) (hl : L.length ≤ 1000000) (hk : ∀ p ∈ L, p.1.size ≤ 1000000) :
    Calls Tryd.prog 36 #[v] w (SrtPost w L) := by
  have hcl := clone_any v L w h (by omega)
  obtain ⟨pn, cn, rfl⟩ := h.shape
  go_enter Tryd.func36, Tryd.ntmps36
  go_wp2_with fail
  refine hcl.mono ?_
  rintro e w1 ⟨v1, rfl, hown, hB1⟩
  have hsh := hown.at
  have hsort : Calls Tryd.prog 57 #[v1, .func (.func 58) #[] #[]] w1 fun e w' => e = .returned (.tuple #[]) ∧ ∃ L', L.Perm L' ∧ L'.Pairwise leP ∧ PairsAt w' v1 L' ∧ Below w.heap.size w w' := by
    rcases hown.2 with ⟨rfl, h0⟩ | ⟨g, cap, cur, rfl, hgb, _, hcap, _⟩
    · have : L = [] := List.eq_nil_of_length_eq_zero h0
      subst this
      exact (sort_none none 0 w1).mono fun e w' ⟨he, hw⟩ => ⟨he, [], List.Perm.nil, List.Pairwise.nil, .inl ⟨rfl, none, 0, rfl⟩, hw ▸ hB1⟩
    · exact sort_any (w0 := w) hown hcap hB1 (by omega)
  obtain ⟨p1, c1, rfl⟩ := hsh.shape
  have hcopy : ∀ w' L', L.Perm L' → PairsAt w' (.slice p1 L.length c1) L' → True := fun _ _ _ _ => trivial
  clear hcopy hsh hown hcl h hB1
  go_wp2_with fail
  refine hsort.mono ?_
  rintro e w2 ⟨rfl, L', hperm, hsrt, hP2, hB2⟩
  have hlen := hperm.length_eq
  obtain ⟨n, hn⟩ : ∃ n, L.length = n := ⟨_, rfl⟩
  rw [hn] at hP2 hlen hl ⊢
  have hni : n ≤ 1000000 := hl
  have HL : Hid (L'.length = n ∧ L.Perm L' ∧ L'.Pairwise leP ∧ (∀ p ∈ L', p.1.size ≤ 1000000)) := ⟨hlen.symm, hperm, hsrt, fun p hp => hk p (hperm.mem_iff.2 hp)⟩
  have HB2 : Hid (Below w.heap.size w w2) := hB2
  clear hn hlen hperm hsrt hk hl hsort hB2
  go_wp2_with fail
  go_loopw [12] (fun z wr => ∃ i : Nat, i ≤ n ∧ z = .int .i64 (i : Nat) ∧ Hid (PairsAt wr (.slice p1 n c1) L') ∧ Hid (Below w.heap.size w wr) ∧ Hid (∀ j, j < i → okAt L' j)) (fun z _ => n - (intOf z).toNat)
  case atStart => exact ⟨0, by omega, rfl, hP2, HB2, fun j hj => absurd hj (Nat.not_lt_zero _)⟩
  case round =>
    obtain ⟨i, hi, rfl, HP, HBr, HOK⟩ := hrel
    by_cases hlt : i < n
    · have hlti : (i : Int) < n := by omega
      have hi00 : (0 : Int) ≤ i := by omega
      obtain ⟨x, hx⟩ : ∃ x, L'[i]? = some x := ⟨_, List.getElem?_eq_getElem (by rw [HL.out.1]; exact hlt)⟩
      obtain ⟨b, o, hp1, hnl, hxa⟩ := HP.out.at hx
      subst hp1
      clear hnl
      obtain ⟨q1, q2⟩ := hxa
      have HX : Hid (L'[i]? = some x) := hx
      obtain ⟨x1, hx1⟩ : ∃ x1, x.1 = x1 := ⟨_, rfl⟩
      obtain ⟨x2, hx2⟩ : ∃ x2, x.2 = x2 := ⟨_, rfl⟩
      rw [hx1] at q1
      rw [hx2] at q2
      have HXX : Hid (x.1 = x1 ∧ x.2 = x2) := ⟨hx1, hx2⟩
      have hz := zeroPair
      clear hx hx1 hx2
      go_wp2_with fail
      obtain ⟨p, hp⟩ : ∃ p, wr.heap.size = p := ⟨_, rfl⟩
      obtain ⟨W, hW⟩ : ∃ W, wr.alloc (.cells #[.string x1, .string x2] 33) = W := ⟨_, rfl⟩
      have hH : K.Holds W p 33 #[.string x1, .string x2] := by rw [← hW, ← hp]; exact K.Holds.new _ _ _
      have hBW : Below wr.heap.size wr W := by rw [← hW]; exact (Below.refl _ _).alloc (Nat.le_refl _) _
      have HPW : Hid (PairsAt W (.slice (some ⟨b, o, none⟩) n c1) L') := HP.out.below hBW
      have HBW : Hid (Below w.heap.size w W) := HBr.out.trans (hBW.mono HBr.out.size)
      have C1 : W.drew.cell? ⟨p, 0, none⟩ = some (.string x1) := hH.cell 0
      have C2 : W.drew.cell? ⟨p, 1, none⟩ = some (.string x2) := hH.cell 1
      rw [hp, hW]
      have hxs : x1.size ≤ 1000000 := by rw [← HXX.out.1]; exact HL.out.2.2.2 x (List.mem_of_getElem? HX.out)
      have hrt := right_any x1 W.drew (by omega)
      have HKX : Hid (rightL x1.data.toList = rightL (kb x)) := by unfold Hid kb; rw [HXX.out.1]
      clear hp hW hH hBW hz q1 q2
      by_cases hv : x2.size = 0
      · have ev := isEmpty0 x2 hv
        have HN : Hid (¬ mayL L) := fun ⟨m, hm⟩ => by
          have := (ok_of_may (hm.perm HL.out.2.1) HL.out.2.2.1 i x HX.out).1
          rw [HXX.out.2] at this
          exact this hv
        clear hv hrt
        refine wp_region_all (fun w' => w' = W.drew) mixedP (by kernel_rfl) rfl ?_
        refine cq_val rfl (.pointer (some ⟨p, 1, none⟩)) (fun w5 h5 => by subst h5; go_simp) ?_
        go_frame
        refine cq_val rfl (.string x2) (fun w5 h5 => by subst h5; have c := C2; go_simp) ?_
        go_frame
        refine cq_val rfl (.bool true) (fun w5 h5 => by subst h5; have e := ev; go_simp) ?_
        go_frame
        go_big_quiet_step (fail)
        go_big_quiet_step (fail)
        go_big_quiet_step (fail)
        go_big_quiet_step (fail)
        go_big_quiet_step (fail)
        go_big_quiet_step (fail)
        go_big_quiet_step (fail)
        go_big_quiet_step (fail)
        go_big_quiet_step (fail)
        go_big_quiet_step (fail)
        go_big_quiet_step (fail)
        go_big_quiet_step (fail)
        go_big_quiet_step (fail)
        go_big_quiet_step (fail)
        go_big_quiet_step (fail)
        go_big_quiet_step (fail)
        go_big_quiet_step (fail)
        go_big_quiet_step (fail)
        go_big_quiet_step (fail)
        go_big_quiet_step (fail)
        go_big_quiet_step (fail)
        go_big_quiet_step (fail)
        refine wpQuiet_nil ?_
        rintro w6 rfl
        simp only [Exit.then]
        go_at_K
        go_wp2_with fail
        go_ret2
        exact ⟨false, _, rfl, (fun e => by cases e), fun _ => HN.out, HBW.out.drew⟩
      · have ev := notEmpty x2 hv
        have HV : Hid (x2.size ≠ 0) := hv
        clear hv
        cases hr : rightL x1.data.toList with
        | false =>
          rw [hr] at hrt HKX
          have HRT : Hid (∀ W0 : World, Calls Tryd.prog 42 #[.string x1] W0 fun e w' => e = .returned (.bool false) ∧ w' = W0) := fun W0 => by
            have q := right_any x1 W0 (by omega)
            rw [hr] at q; exact q
          have HN : Hid (¬ mayL L) := fun ⟨m, hm⟩ => by
            have := (ok_of_may (hm.perm HL.out.2.1) HL.out.2.2.1 i x HX.out).2.1
            rw [← HKX.out] at this
            cases this
          clear hr hrt
          refine wp_region_all (fun w' => w' = W.drew) mixedP (by kernel_rfl) rfl ?_
          refine cq_val rfl (.pointer (some ⟨p, 1, none⟩)) (fun w5 h5 => by subst h5; go_simp) ?_
          go_frame
          refine cq_val rfl (.string x2) (fun w5 h5 => by subst h5; have c := C2; go_simp) ?_
          go_frame
          refine cq_val rfl (.bool false) (fun w5 h5 => by subst h5; have e := ev; go_simp) ?_
          go_frame
          go_big_quiet_step (fail)
          refine cq_val rfl (.pointer (some ⟨p, 0, none⟩)) (fun w5 h5 => by subst h5; go_simp) ?_
          go_frame
          refine cq_val rfl (.string x1) (fun w5 h5 => by subst h5; have c := C1; go_simp) ?_
          go_frame
          refine cq_call rfl 42 #[.string x1] (fun _ => by go_simp) (.bool false) (fun w5 h5 => by subst h5; exact HRT.out _) ?_
          go_frame
          go_big_quiet_step (exact fun _ => rfl)
          go_big_quiet_step (fail)
          go_big_quiet_step (fail)
          go_big_quiet_step (fail)
          go_big_quiet_step (fail)
          go_big_quiet_step (fail)
          go_big_quiet_step (fail)
          go_big_quiet_step (fail)
          go_big_quiet_step (fail)
          go_big_quiet_step (fail)
          go_big_quiet_step (fail)
          go_big_quiet_step (fail)
          go_big_quiet_step (fail)
          go_big_quiet_step (fail)
          go_big_quiet_step (fail)
          go_big_quiet_step (fail)
          go_big_quiet_step (fail)
          go_big_quiet_step (fail)
          refine wpQuiet_nil ?_
          rintro w6 rfl
          simp only [Exit.then]
          go_at_K
          go_wp2_with fail
          go_ret2
          exact ⟨false, _, rfl, (fun e => by cases e), fun _ => HN.out, HBW.out.drew⟩
        | true =>
          rw [hr] at hrt HKX
          have HRT : Hid (∀ W0 : World, Calls Tryd.prog 42 #[.string x1] W0 fun e w' => e = .returned (.bool true) ∧ w' = W0) := fun W0 => by
            have q := right_any x1 W0 (by omega)
            rw [hr] at q; exact q
          clear hr hrt
          by_cases h0 : i = 0
          · have hi0 : ¬ (i : Int) > 0 := by omega
            have HN : Hid (∀ j, j < i + 1 → okAt L' j) := fun j hj => by
              have : j = i := by omega
              subst this
              intro z hz
              rw [HX.out] at hz
              injection hz with hz
              subst hz
              exact ⟨by rw [HXX.out.2]; exact HV.out, HKX.out.symm, fun h => absurd h (by omega)⟩
            clear h0
            refine wp_region_all (fun w' => w' = W.drew) mixedP (by kernel_rfl) rfl ?_
            refine cq_val rfl (.pointer (some ⟨p, 1, none⟩)) (fun w5 h5 => by subst h5; go_simp) ?_
            go_frame
            refine cq_val rfl (.string x2) (fun w5 h5 => by subst h5; have c := C2; go_simp) ?_
            go_frame
            refine cq_val rfl (.bool false) (fun w5 h5 => by subst h5; have e := ev; go_simp) ?_
            go_frame
            go_big_quiet_step (fail)
            refine cq_val rfl (.pointer (some ⟨p, 0, none⟩)) (fun w5 h5 => by subst h5; go_simp) ?_
            go_frame
            refine cq_val rfl (.string x1) (fun w5 h5 => by subst h5; have c := C1; go_simp) ?_
            go_frame
            refine cq_call rfl 42 #[.string x1] (fun _ => by go_simp) (.bool true) (fun w5 h5 => by subst h5; exact HRT.out _) ?_
            go_frame
            go_big_quiet_step (exact fun _ => rfl)
            go_big_quiet_step (fail)
            go_big_quiet_step (fail)
            refine cq_val rfl (.int .i64 (i : Nat)) (fun w5 h5 => by subst h5; go_simp) ?_
            go_frame
            refine cq_val rfl (.bool false) (fun w5 h5 => by subst h5; have e := hi0; go_simp; omega) ?_
            go_frame
            go_big_quiet_step (fail)
            go_big_quiet_step (fail)
            go_big_quiet_step (fail)
            go_big_quiet_step (fail)
            go_big_quiet_step (fail)
            go_big_quiet_step (fail)
            go_big_quiet_step (fail)
            go_big_quiet_step (fail)
            go_big_quiet_step (fail)
            go_big_quiet_step (fail)
            go_big_quiet_step (fail)
            go_big_quiet_step (fail)
            go_big_quiet_step (fail)
            refine wpQuiet_nil ?_
            rintro w6 rfl
            simp only [Exit.then]
            go_at_K
            go_wp2_with fail
            go_roundw
            case rel => exact ⟨i + 1, by omega, by simp, HPW.out.below ((Below.refl _ _).drew), HBW.out.drew, HN.out⟩
            case measure => simp [intOf]; omega
          · have hi0 : (i : Int) > 0 := by omega
            obtain ⟨y, hy⟩ : ∃ y, L'[i - 1]? = some y := ⟨_, List.getElem?_eq_getElem (by rw [HL.out.1]; omega)⟩
            obtain ⟨b', o', hb', hnl, hya⟩ := HPW.out.at hy
            injection hb' with hb'
            injection hb' with hbb hoo _
            subst hbb hoo
            have C3 : W.drew.cell? ⟨b, o + (i - 1) * 2, none⟩ = some (.string y.1) := hya.1
            obtain ⟨y1, hy1⟩ : ∃ y1, y.1 = y1 := ⟨_, rfl⟩
            rw [hy1] at C3
            obtain ⟨fl, hfl⟩ : ∃ fl, folB y1 x1 = fl := ⟨_, rfl⟩
            have HFL : Hid (∀ W0 : World, Calls Tryd.prog 43 #[.string y1, .string x1] W0 fun e w' => e = .returned (.bool fl) ∧ w' = W0) := fun W0 => by
              rw [← hfl]; exact follows_any y1 x1 W0
            have hi1 : (i : Int) - 1 = ((i - 1 : Nat) : Int) := by omega
            have hi2 : IntKind.i64.wrap (((i - 1 : Nat) : Int)) = ((i - 1 : Nat) : Int) := by rw [IntKind.wrap_i64]; omega
            have hi3 : ((i - 1 : Nat) : Int) < n := by omega
            have hi4 : (0 : Int) ≤ ((i - 1 : Nat) : Int) := by omega
            have HY : Hid (folB y.1 x1 = fl ∧ L'[i - 1]? = some y) := ⟨by rw [hy1]; exact hfl, hy⟩
            clear hnl hya hy hy1 hfl
            refine wp_region_all (fun w' => w' = W.drew) mixedP (by kernel_rfl) rfl ?_
            refine cq_val rfl (.pointer (some ⟨p, 1, none⟩)) (fun w5 h5 => by subst h5; go_simp) ?_
            go_frame
            refine cq_val rfl (.string x2) (fun w5 h5 => by subst h5; have c := C2; go_simp) ?_
            go_frame
            refine cq_val rfl (.bool false) (fun w5 h5 => by subst h5; have e := ev; go_simp) ?_
            go_frame
            go_big_quiet_step (fail)
            refine cq_val rfl (.pointer (some ⟨p, 0, none⟩)) (fun w5 h5 => by subst h5; go_simp) ?_
            go_frame
            refine cq_val rfl (.string x1) (fun w5 h5 => by subst h5; have c := C1; go_simp) ?_
            go_frame
            refine cq_call rfl 42 #[.string x1] (fun _ => by go_simp) (.bool true) (fun w5 h5 => by subst h5; exact HRT.out _) ?_
            go_frame
            go_big_quiet_step (exact fun _ => rfl)
            go_big_quiet_step (fail)
            go_big_quiet_step (fail)
            refine cq_val rfl (.int .i64 (i : Nat)) (fun w5 h5 => by subst h5; go_simp) ?_
            go_frame
            refine cq_val rfl (.bool true) (fun w5 h5 => by subst h5; have e := hi0; go_simp; omega) ?_
            go_frame
            go_big_quiet_step (fail)
            refine cq_val rfl (.slice (some ⟨b, o, none⟩) n c1) (fun w5 h5 => by subst h5; go_simp) ?_
            go_frame
            refine cq_val rfl (.int .i64 (i : Nat)) (fun w5 h5 => by subst h5; go_simp) ?_
            go_frame
            refine cq_val rfl (.int .i64 ((i - 1 : Nat) : Int)) (fun w5 h5 => by subst h5; have e := hi1; go_simp) ?_
            go_frame
            refine cq_val rfl (.pointer (some ⟨b, o + (i - 1) * 2, none⟩)) (fun w5 h5 => by subst h5; have e := hi3; go_simp) ?_
            go_frame
            refine cq_val rfl (.pointer (some ⟨b, o + (i - 1) * 2, none⟩)) (fun w5 h5 => by subst h5; go_simp) ?_
            go_frame
            refine cq_val rfl (.string y1) (fun w5 h5 => by subst h5; have c := C3; go_simp) ?_
            go_frame
            refine cq_val rfl (.pointer (some ⟨p, 0, none⟩)) (fun w5 h5 => by subst h5; go_simp) ?_
            go_frame
            refine cq_val rfl (.string x1) (fun w5 h5 => by subst h5; have c := C1; go_simp) ?_
            go_frame
            refine cq_call rfl 43 #[.string y1, .string x1] (fun _ => by go_simp) (.bool fl) (fun w5 h5 => by subst h5; exact HFL.out _) ?_
            go_frame
            refine cq_val rfl (.bool !fl) (fun w5 h5 => by subst h5; have e := run_notT; go_simp) ?_
            go_frame
            refine cq_val rfl (.bool !fl) (fun w5 h5 => by subst h5; go_simp) ?_
            go_frame
            refine cq_val rfl (.bool !fl) (fun w5 h5 => by subst h5; go_simp) ?_
            go_frame
            refine wpQuiet_nil ?_
            rintro w6 rfl
            simp only [Exit.then]
            go_at_K
            cases fl with
            | false =>
              have HN : Hid (¬ mayL L) := fun ⟨m, hm⟩ => by
                have := (ok_of_may (hm.perm HL.out.2.1) HL.out.2.2.1 i x HX.out).2.2 (by omega) y HY.out.2
                rw [HXX.out.1, HY.out.1] at this
                cases this
              go_wp2_with fail
              go_ret2
              exact ⟨false, _, rfl, (fun e => by cases e), fun _ => HN.out, HBW.out.drew⟩
            | true =>
              have HN : Hid (∀ j, j < i + 1 → okAt L' j) := fun j hj => by
                by_cases hji : j = i
                · subst hji
                  intro z hz
                  rw [HX.out] at hz
                  injection hz with hz
                  subst hz
                  refine ⟨by rw [HXX.out.2]; exact HV.out, HKX.out.symm, fun _ q hq => ?_⟩
                  rw [HY.out.2] at hq
                  injection hq with hq
                  subst hq
                  rw [HXX.out.1]
                  exact HY.out.1
                · exact HOK.out j (by omega)
              go_wp2_with fail
              go_roundw
              case rel => exact ⟨i + 1, by omega, by simp, HPW.out.below ((Below.refl _ _).drew), HBW.out.drew, HN.out⟩
              case measure => simp [intOf]; omega
    · have hlti : ¬ (i : Int) < n := by omega
      have hin : i = n := by omega
      go_wp2_with fail
      go_ret2
      have hall : ∀ j, okAt L' j := fun j => by
        by_cases hj : j < n
        · exact HOK.out j (by omega)
        · exact fun x hx => by rw [List.getElem?_eq_none (by rw [HL.out.1]; omega)] at hx; cases hx
      obtain ⟨hr, m, hm⟩ := may_of_ok hall
      exact ⟨true, _, rfl, fun _ => ⟨⟨m, hm.perm HL.out.2.1.symm⟩, L', HL.out.2.1, hr, ⟨m, hm⟩, HP.out⟩, (fun e => by cases e), HBr.out⟩
end Go.Proofs.YtjdhdeffiigpbaaDoor
