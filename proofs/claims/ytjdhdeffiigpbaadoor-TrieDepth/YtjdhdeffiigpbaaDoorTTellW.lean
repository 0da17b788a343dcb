/-
  What the closure that tells a map's node does.
-/
import Derived.Test.YtjdhdeffiigpbaaDoorTSlice
import Derived.Test.YtjdhdeffiigpbaaDoorTLen
import Derived.Laws.EntriesVeiled
namespace Go.Proofs.YtjdhdeffiigpbaaDoor
open Go Go.RowKit Go.BigFrame Nb

def BoxedT (w : World) (bx : Nat) : Prop := w.cell? ⟨bx, 0, none⟩ = some (.func (.func 38) #[] #[.pointer (some ⟨bx, 0, none⟩)])
theorem BoxedT.lt {w : World} {bx : Nat} (h : BoxedT w bx) : bx < w.heap.size := World.block_lt_of_cell? w ⟨bx, 0, none⟩ h
theorem BoxedT.below {w w' : World} {bx : Nat} (h : BoxedT w bx) (k : Below w.heap.size w w') : BoxedT w' bx := by
  unfold BoxedT; rw [k.cell (p := ⟨bx, 0, none⟩) h.lt]; exact h
theorem Rise.filter {L : List Pr} (h : Rise L) (f : Pr → Bool) : Rise (L.filter f) := List.Pairwise.filter f h
theorem Alike.atN {m q : Nat} {L : List Pr} (hm : May m L) (ha : Alike q L) (hq : q < m) (n : Nat) : Alike (q + 1) (atN q n L) := fun x hx y hy => by
  obtain ⟨h1, h2⟩ := mem_atN.1 hx
  obtain ⟨h3, h4⟩ := mem_atN.1 hy
  exact (take_succ_iff hm h1 h3 hq).2 ⟨ha x h1 y h3, h2.trans h4.symm⟩
/-- The refs that are known so far. -/
def refsT (q : Nat) (L : List Pr) (n j : Nat) : ByteArray := if j < n then ⟨(kids q L j).toArray⟩ else ⟨#[]⟩
theorem refsT_step (q : Nat) (L : List Pr) (n : Nat) (hn : n < 16) : strA 16 (refsT q L (n + 1)) = (strA 16 (refsT q L n)).setIfInBounds n (.string ⟨(kids q L n).toArray⟩) := by
  rw [strA_set 16 _ n hn]
  refine strA_congr fun j _ => ?_
  unfold refsT
  by_cases e : j = n
  · subst e; rw [if_pos (Nat.lt_succ_self _), if_pos rfl]
  · rw [if_neg e]
    by_cases e2 : j < n
    · rw [if_pos (Nat.lt_succ_of_lt e2), if_pos e2]
    · rw [if_neg (by omega), if_neg e2]
theorem refsT_same (q : Nat) (L : List Pr) (n : Nat) (h : atN q n L = []) : strA 16 (refsT q L (n + 1)) = strA 16 (refsT q L n) := by
  refine strA_congr fun j _ => ?_
  unfold refsT
  by_cases e : j = n
  · subst e
    rw [if_pos (Nat.lt_succ_self _), if_neg (Nat.lt_irrefl _)]
    unfold kids
    rw [if_pos h]
  · by_cases e2 : j < n
    · rw [if_pos (Nat.lt_succ_of_lt e2), if_pos e2]
    · rw [if_neg (by omega), if_neg e2]
def TellOk (w : World) (L : List Pr) (d m bx : Nat) (v : Value) : Prop := L ≠ [] ∧ May m L ∧ Rise L ∧ Alike d L ∧ d ≤ m ∧ (∀ p ∈ L, p.2.size ≤ 1000000) ∧ m ≤ 100000 ∧ L.length ≤ 1000000 ∧ PairsAt w v L ∧ BoxedT w bx ∧ K.Tabs w
def TellGoal (w : World) (L : List Pr) (d bx : Nat) (v : Value) : Prop :=
  Calls Tryd.prog 38 #[.int .i64 (d : Nat), v, .pointer (some ⟨bx, 0, none⟩)] w fun e w' => e = .returned (.string ⟨(node d L).toArray⟩) ∧ Below w.heap.size w w'
set_option maxRecDepth 8000 in
set_option maxHeartbeats 2000000 in
theorem tell_one (p : Pr) (d m bx : Nat) (v : Value) (w : World) (h : TellOk w [p] d m bx v) : TellGoal w [p] d bx v := by
  obtain ⟨_, hm, _, _, hdm, hv, hm5, _, hP, hbx, hT⟩ := h
  unfold TellGoal
  obtain ⟨x, y⟩ := p
  obtain ⟨pn, cn, rfl⟩ := hP.shape
  obtain ⟨b, o, rfl, _, hxa⟩ := hP.at (i := 0) rfl
  obtain ⟨c1, c2⟩ := hxa
  rw [Nat.zero_mul, Nat.add_zero] at c1 c2
  dsimp only at c1 c2
  have hxm : x.size = m := hm.len _ List.mem_cons_self
  have hys : y.size ≤ 1000000 := hv _ List.mem_cons_self
  have hnib := hm.nib _ List.mem_cons_self
  have S1 : ∀ W : World, (Instr.sliceAt 9 (.string x) (some (.int .i64 (d : Int))) none none).run Tryd.prog W = .ok (.string (x.extract d x.size)) W := fun W => slice_from x d (by omega) W
  obtain ⟨X1, hX1⟩ : ∃ X1, x.extract d x.size = X1 := ⟨_, rfl⟩
  have hXd : X1.data.toList = (kb (x, y)).drop d := by
    rw [← hX1, extract_data, List.take_of_length_le (by rw [sizeB]; exact Nat.le_refl _)]; rfl
  have hXs : X1.size ≤ 100000 := by
    rw [← sizeB, hXd, List.length_drop]
    have : (kb (x, y)).length = m := hm.len _ List.mem_cons_self
    omega
  have hXr : rightL X1.data.toList = true := by rw [hXd]; exact right_drop _ _ hnib
  rw [hX1] at S1
  have hlf := fun w => leaf_any X1 y w (by omega) (by omega)
  obtain ⟨lf, hlfe⟩ : ∃ lf, leafS X1 y = lf := ⟨_, rfl⟩
  obtain ⟨k, hke⟩ : ∃ k, okE X1.data.toList = k := ⟨_, rfl⟩
  rw [hlfe, hke] at hlf
  have HLF : Hid (∀ w, Calls Tryd.prog 8 #[.string X1, .string y] w fun e w' => e = .returned (.tuple #[.string lf, .int .i64 k]) ∧ Below w.heap.size w w') := hlf
  have HR : Hid ((⟨(node d [(x, y)]).toArray⟩ : ByteArray) = lf) := by
    show _ = _
    rw [node_one, ← hlfe]
    unfold leafS
    rw [hXr, if_pos rfl, hXd]; rfl
  have HC : Hid (∀ w5, Below w.heap.size w w5 → w5.cell? ⟨b, o + 1, none⟩ = some (.string y) ∧ True) := fun w5 h5 => ⟨by
    rw [h5.cell (p := ⟨b, o + 1, none⟩) (World.block_lt_of_cell? w _ c2)]; exact c2, trivial⟩
  clear hlf hlfe hke hXr hXd hX1 hnib hv hm hP c2 hbx hT hdm hxm hm5
  rw [HR.out]
  go_enter Tryd.func38, Tryd.ntmps38
  go_wp2_with fail
  refine wp_region_all (fun w5 => Below w.heap.size w w5) mixedP (by kernel_rfl) ((Below.refl _ _).drew) ?_
  go_big_quiet_step (fail)
  go_big_quiet_step (fail)
  refine cq_val rfl (.string X1) (fun w5 h5 => by have q := S1; go_simp) ?_
  go_frame
  go_big_quiet_step (fail)
  refine cq_val rfl (.pointer (some ⟨b, o, none⟩)) (fun w5 h5 => by go_simp) ?_
  go_frame
  refine cq_val rfl (.pointer (some ⟨b, o + 1, none⟩)) (fun w5 h5 => by go_simp) ?_
  go_frame
  refine cq_val rfl (.string y) (fun w5 h5 => by have q := (HC.out w5 h5).1; go_simp) ?_
  go_frame
  refine cq_call rfl 8 #[.string X1, .string y] (fun _ => by go_simp) (.tuple #[.string lf, .int .i64 k]) (fun w5 h5 => (HLF.out w5).mono fun e w6 ⟨he, h6⟩ => ⟨he, h5.trans (h6.mono h5.size)⟩) ?_
  go_frame
  go_big_quiet_step (fail)
  refine cq_val rfl (.string lf) (fun w5 h5 => by go_simp) ?_
  go_frame
  refine cq_val rfl (.int .i64 k) (fun w5 h5 => by go_simp) ?_
  go_frame
  go_big_quiet_step (fail)
  go_big_quiet_step (fail)
  refine wpQuiet_nil ?_
  intro w9 hB9
  simp only [Exit.then]
  go_at_K
  go_wp2_with fail
  go_ret
  exact ⟨rfl, hB9⟩
set_option maxRecDepth 16000 in
set_option maxHeartbeats 8000000 in
theorem tell_many (N : Nat) (IH : ∀ (L : List Pr) (d m bx : Nat) (v : Value) (w : World), L.length < N → TellOk w L d m bx v → TellGoal w L d bx v) (f l1 : Pr) (l : List Pr) (d m bx : Nat) (v : Value) (w : World) (hN : (f :: l1 :: l).length ≤ N) (h : TellOk w (f :: l1 :: l) d m bx v) : TellGoal w (f :: l1 :: l) d bx v := by
  obtain ⟨_, hm, hrs, hal, hdm, hv, hm5, hl, hP, hbx, hT⟩ := h
  unfold TellGoal
  obtain ⟨L, hL⟩ : ∃ L, f :: l1 :: l = L := ⟨_, rfl⟩
  obtain ⟨z0, hz⟩ : ∃ z, (f :: l1 :: l).getLast? = some z := ⟨_, List.getLast?_eq_some_getLast (by simp)⟩
  have hlcp := hrs.lcp hm hz (by simp)
  have hf0 : (f :: l1 :: l)[0]? = some f := rfl
  have hn2 : 2 ≤ (f :: l1 :: l).length := by simp
  have hzl : (f :: l1 :: l)[(f :: l1 :: l).length - 1]? = some z0 := by rw [← hz, List.getLast?_eq_getElem?]
  rw [hL] at hm hrs hal hv hl hP hlcp hf0 hn2 hzl hN ⊢
  clear hz hL
  obtain ⟨pn, cn, rfl⟩ := hP.shape
  obtain ⟨b, o, rfl, _, hxa⟩ := hP.at hf0
  obtain ⟨b', o', hbo, _, hza⟩ := hP.at hzl
  injection hbo with hbo
  injection hbo with hb1 hb2 _
  subst hb1 hb2
  have ca := hxa.1
  have cz := hza.1
  rw [Nat.zero_mul, Nat.add_zero] at ca
  have hfm := hm.len f (List.mem_of_getElem? hf0)
  have hzm := hm.len z0 (List.mem_of_getElem? hzl)
  have hfr := hm.nib f (List.mem_of_getElem? hf0)
  have hfz := hal f (List.mem_of_getElem? hf0) z0 (List.mem_of_getElem? hzl)
  have hfL := List.mem_of_getElem? hf0
  obtain ⟨x, y⟩ := f
  obtain ⟨z, zv⟩ := z0
  dsimp only at ca cz
  have hxm : x.size = m := hfm
  have hzs : z.size = m := hzm
  have S1 : ∀ W : World, (Instr.sliceAt 9 (.string x) (some (.int .i64 (d : Int))) none none).run Tryd.prog W = .ok (.string (x.extract d x.size)) W := fun W => slice_from x d (by omega) W
  have S2 : ∀ W : World, (Instr.sliceAt 9 (.string z) (some (.int .i64 (d : Int))) none none).run Tryd.prog W = .ok (.string (z.extract d z.size)) W := fun W => slice_from z d (by omega) W
  have hX : (x.extract d x.size).data.toList = (kb (x, y)).drop d := by
    rw [extract_data, List.take_of_length_le (by rw [sizeB]; exact Nat.le_refl _)]; rfl
  have hZ : (z.extract d z.size).data.toList = (kb (z, zv)).drop d := by
    rw [extract_data, List.take_of_length_le (by rw [sizeB]; exact Nat.le_refl _)]; rfl
  have hXs : (x.extract d x.size).size ≤ 1000000 := by rw [← sizeB, hX, List.length_drop]; omega
  have hZs : (z.extract d z.size).size ≤ 1000000 := by rw [← sizeB, hZ, List.length_drop]; omega
  have hpx := fun w => prefix_any (x.extract d x.size) (z.extract d z.size) w hXs hZs
  obtain ⟨q, hq⟩ : ∃ q, q = pre (kb (x, y)) (kb (z, zv)) := ⟨_, rfl⟩
  rw [← hq] at hlcp
  have hqm := hlcp.lt hm
  obtain ⟨pp, hpp⟩ : ∃ pp, pp = pre (x.extract d x.size).data.toList (z.extract d z.size).data.toList := ⟨_, rfl⟩
  have hdp : d + pp = q := by
    rw [hpp, hq, hX, hZ]
    exact pre_drop hfz (by rw [hfm]; exact hdm) (by rw [hzm]; exact hdm)
  rw [← hpp] at hpx
  obtain ⟨X1, hX1⟩ : ∃ X1, x.extract d x.size = X1 := ⟨_, rfl⟩
  obtain ⟨Z1, hZ1⟩ : ∃ Z1, z.extract d z.size = Z1 := ⟨_, rfl⟩
  have HPX : Hid (∀ w, Calls Tryd.prog 39 #[.string (x.extract d x.size), .string (z.extract d z.size)] w fun e w' => e = .returned (.int .i64 (pp : Nat)) ∧ Below w.heap.size w w') := hpx
  rw [hX1, hZ1] at HPX
  rw [hX1] at S1
  rw [hZ1] at S2
  have hq1 : (d : Int) + (pp : Int) = (q : Int) := by omega
  have hq3 : IntKind.i64.wrap (q : Int) = (q : Int) := by rw [IntKind.wrap_i64]; omega
  obtain ⟨q1, hqq⟩ : ∃ q1, q + 1 = q1 := ⟨_, rfl⟩
  have hq2 : (q : Int) + 1 = (q1 : Int) := by omega
  have hq4 : IntKind.i64.wrap (q1 : Int) = (q1 : Int) := by rw [IntKind.wrap_i64]; omega
  have HQ1 : Hid (q + 1 = q1) := hqq
  clear hqq
  obtain ⟨ln, hln⟩ : ∃ ln, L.length = ln := ⟨_, rfl⟩
  have hXr : rightL (kb (x, y)) = true := hfr
  have HL : Hid (L.length = ln ∧ Rise L ∧ Alike q L ∧ (∀ p ∈ L, p.2.size ≤ 1000000) ∧ (x, y) ∈ L ∧ Lcp L q ∧ rightL (kb (x, y)) = true) := ⟨hln, hrs, hlcp.alike, hv, hfL, hlcp, hXr⟩
  have HM : Hid (May m L) := hm
  have hPw := hP
  rw [hln] at hN hl hP cz hn2 ⊢
  have hlni : ¬ (ln : Int) = 1 := by omega
  have hln0 : (0 : Int) < ln := by omega
  have hn1 : (ln : Int) - 1 = ((ln - 1 : Nat) : Int) := by omega
  have hn2' : IntKind.i64.wrap ((ln - 1 : Nat) : Int) = ((ln - 1 : Nat) : Int) := by rw [IntKind.wrap_i64]; omega
  have hn3 : ((ln - 1 : Nat) : Int) < ln := by omega
  have HC : Hid (∀ w5, Below w.heap.size w w5 → w5.cell? ⟨b, o + (ln - 1) * 2, none⟩ = some (.string z)) := fun w5 h5 => by
    rw [h5.cell (p := ⟨b, o + (ln - 1) * 2, none⟩) (World.block_lt_of_cell? w _ cz)]; exact cz
  have HP : Hid (PairsAt w (.slice (some ⟨b, o, none⟩) ln cn) L) := hP
  have HBX : Hid (BoxedT w bx ∧ K.Tabs w) := ⟨hbx, hT⟩
  have HIH : Hid (∀ (L : List Pr) (d m bx : Nat) (v : Value) (w : World), L.length < N → TellOk w L d m bx v → TellGoal w L d bx v) := IH
  have HBD : Hid (d ≤ m ∧ m ≤ 100000 ∧ ln ≤ N ∧ ln ≤ 1000000 ∧ q < m ∧ d ≤ q ∧ x.size = m) := ⟨hdm, hm5, hN, hl, hqm, by omega, hxm⟩
  have hz16 := zero16
  have hzi : ∀ w : World, Below w.heap.size w (w.alloc (.cells (strA 16 fun _ => ⟨#[]⟩) 22)) := fun w => (Below.refl _ _).alloc (Nat.le_refl _) _
  have hqx : q ≤ x.size := by omega
  have hdq : d ≤ q := by omega
  obtain ⟨R, hRe⟩ : ∃ R : ByteArray, (⟨(node d L).toArray⟩ : ByteArray) = R := ⟨_, rfl⟩
  have HRE : Hid ((⟨(node d L).toArray⟩ : ByteArray) = R) := hRe
  rw [hRe]
  clear hRe
  clear hX hZ hXs hZs hpx hpp hdp hX1 hZ1 hm hrs hal hv hP hlcp hf0 hzl hxa hza cz hfm hzm hfr hfz hfL hln hXr hPw hbx hT IH hN hl hq hqm hdm hm5 hxm hzs
  go_enter Tryd.func38, Tryd.ntmps38
  go_wp2_with fail
  refine wp_region_all (fun w5 => Below w.heap.size w w5) mixedP (by kernel_rfl) ((Below.refl _ _).drew) ?_
  go_big_quiet_step (fail)
  go_big_quiet_step (fail)
  go_big_quiet_step (fail)
  refine cq_val rfl (.string X1) (fun w5 h5 => by have q := S1; go_simp) ?_
  go_frame
  go_big_quiet_step (fail)
  go_big_quiet_step (fail)
  refine cq_val rfl (.int .i64 (ln : Nat)) (fun w5 h5 => by go_simp) ?_
  go_frame
  refine cq_val rfl (.int .i64 ((ln - 1 : Nat) : Int)) (fun w5 h5 => by have e := hn1; go_simp) ?_
  go_frame
  refine cq_val rfl (.pointer (some ⟨b, o + (ln - 1) * 2, none⟩)) (fun w5 h5 => by have e := hn3; go_simp) ?_
  go_frame
  refine cq_val rfl (.pointer (some ⟨b, o + (ln - 1) * 2, none⟩)) (fun w5 h5 => by go_simp) ?_
  go_frame
  refine cq_val rfl (.string z) (fun w5 h5 => by have q := HC.out w5 h5; go_simp) ?_
  go_frame
  go_big_quiet_step (fail)
  refine cq_val rfl (.string Z1) (fun w5 h5 => by have q := S2; go_simp) ?_
  go_frame
  refine cq_call rfl 39 #[.string X1, .string Z1] (fun _ => by go_simp) (.int .i64 (pp : Nat)) (fun w5 h5 => (HPX.out w5).mono fun e w6 ⟨he, h6⟩ => ⟨he, h5.trans (h6.mono h5.size)⟩) ?_
  go_frame
  refine cq_val rfl (.int .i64 (q : Nat)) (fun w5 h5 => by have e := hq1; go_simp) ?_
  go_frame
  go_big_quiet_step (fail)
  refine wpQuiet_nil ?_
  intro w1 hB1
  simp only [Exit.then]
  go_at_K
  have HB1 : Hid (Below w.heap.size w w1) := hB1
  obtain ⟨zs, hzs⟩ : ∃ zs, strA 16 (fun _ => ⟨#[]⟩) = zs := ⟨_, rfl⟩
  rw [hzs] at hz16 hzi
  obtain ⟨g, hg⟩ : ∃ g, w1.heap.size = g := ⟨_, rfl⟩
  have hH0 : K.Holds (w1.alloc (.cells zs 22)) g 22 zs := hg ▸ K.Holds.new w1 22 zs
  have HB2 : Hid (Below w.heap.size w (w1.alloc (.cells zs 22))) := HB1.out.trans ((hzi w1).mono HB1.out.size)
  have HGW : Hid (w.heap.size ≤ g) := by have := HB1.out.size; show _ ≤ _; omega
  have HZS : Hid (zs = strA 16 (refsT q L 0)) := by
    show _ = _
    rw [← hzs]
    exact strA_congr fun i _ => by unfold refsT; rw [if_neg (Nat.not_lt_zero _)]
  clear hzs hzi hB1 S1 S2 HPX hq1 hlni hln0 hn1 hn2' hn3 HC ca HB1
  go_wp2_with fail
  go_loopw [1, 47] (fun l zz wr => ∃ (n : Nat) (p' : Option Addr) (k c' : Nat), n ≤ 16 ∧ zz = .int .i64 (n : Nat) ∧ l = .slice p' k c' ∧ (∃ rs, K.Holds wr g 22 rs ∧ Hid (rs = strA 16 (refsT q L n))) ∧ Hid (k = (fromN q n L).length ∧ PairsAt w (.slice p' k c') (fromN q n L)) ∧ Hid (Below w.heap.size w wr)) (fun _ zz _ => 16 - (intOf zz).toNat)
  case atStart =>
    refine ⟨0, _, _, _, by omega, rfl, rfl, ⟨zs, hH0, HZS⟩, ⟨?_, ?_⟩, HB2⟩
    · rw [fromN_zero]; exact HL.out.1.symm
    · rw [fromN_zero]; exact HP.out
  case round =>
    obtain ⟨n, p', k, c', hn, rfl, rfl, ⟨rs, hr, HRS⟩, HF, HB⟩ := hrel
    by_cases hlt : n < 16
    · have hlti : (n : Int) < 16 := by omega
      have hnn : (0 : Int) ≤ n := by omega
      have hwn : IntKind.u8.wrap (n : Int) = n := by simp [IntKind.wrap, IntKind.signed, IntKind.bits]; omega
      have hmono := HL.out.2.1.nib HM.out HL.out.2.2.1 HBD.out.2.2.2.2.1
      have hstep := fromN_step (q := q) (n := n) hmono
      have hfl : (fromN q n L).length ≤ 1000000 := Nat.le_trans (List.length_filter_le _ _) (by rw [HL.out.1]; exact HBD.out.2.2.2.1)
      have hhav := having_at (.slice p' k c') (fromN q n L) q n wr (HF.out.2.below HB.out) hfl (fun r hr => by
        have := HM.out.len r (List.mem_filter.1 hr).1
        have h2 : (kb r).length = r.1.size := rfl
        have := HBD.out.2.2.2.2.1
        omega)
      rw [hstep, takeN] at hhav
      obtain ⟨a, ha⟩ : ∃ a, (atN q n L).length = a := ⟨_, rfl⟩
      rw [ha] at hhav
      have HA : Hid ((atN q n L).length = a ∧ fromN q n L = atN q n L ++ fromN q (n + 1) L) := ⟨ha, hstep⟩
      have hak : a ≤ k := by rw [HF.out.1, hstep, List.length_append, ha]; omega
      have hkc : k ≤ c' := HF.out.2.cap.2
      clear hmono hstep hfl ha
      by_cases ha0 : a = 0
      · have hai : ¬ (a : Int) > 0 := by omega
        have hnil : atN q n L = [] := List.eq_nil_of_length_eq_zero (HA.out.1.trans ha0)
        have HN : Hid (rs = strA 16 (refsT q L (n + 1)) ∧ fromN q n L = fromN q (n + 1) L) := ⟨by rw [HRS.out, refsT_same q L n hnil], by rw [HA.out.2, hnil]; rfl⟩
        clear hnil ha0
        go_wp2_with fail
        refine hhav.mono ?_
        rintro e w3 ⟨rfl, hB3⟩
        have hr3 := K.Below.holds hB3 hr
        have HB3 : Hid (Below w.heap.size w w3) := HB.out.trans (hB3.mono HB.out.size)
        have HF3 : Hid (k = (fromN q (n + 1) L).length ∧ PairsAt w (.slice p' k c') (fromN q (n + 1) L)) := by
          rw [← HN.out.2]
          exact HF.out
        clear hB3 hhav
        go_wp2_with fail
        go_roundw
        case rel => exact ⟨n + 1, _, _, _, by omega, by simp, rfl, ⟨rs, hr3, HN.out.1⟩, HF3, HB3⟩
        case measure => simp [intOf]; omega
      · have hai : (a : Int) > 0 := by omega
        have hApos : atN q n L ≠ [] := fun e => ha0 (by rw [← HA.out.1, e]; rfl)
        obtain ⟨p1, c1, SL, hpart⟩ := sl_to (c := c') p' a hak hkc
        obtain ⟨p2, c2, SF, hrest⟩ := sl_from (c := c') p' a hak hkc
        have hAm : May m (atN q n L) := HM.out.filter _
        have hAl : (atN q n L).length < ln := by rw [← HL.out.1]; exact atN_less HM.out HL.out.2.2.2.2.2.1 n
        have hAv : ∀ r ∈ atN q n L, r.2.size ≤ 1000000 := fun r hr => HL.out.2.2.2.1 r (List.mem_filter.1 hr).1
        have hAa := Alike.atN HM.out HL.out.2.2.1 HBD.out.2.2.2.2.1 n
        have HIT : Hid (∀ w5, (BoxedT w5 bx ∧ PairsAt w5 (.slice p1 a c1) (atN q n L) ∧ K.Tabs w5) → Calls Tryd.prog 38 #[.int .i64 (q1 : Nat), .slice p1 a c1, .pointer (some ⟨bx, 0, none⟩)] w5 fun e w' => e = .returned (.string ⟨(node (q + 1) (atN q n L)).toArray⟩) ∧ Below w5.heap.size w5 w') := fun w5 h5 => by
          rw [← HQ1.out]
          exact HIH.out (atN q n L) (q + 1) m bx _ w5 (by have := HBD.out.2.2.1; omega) ⟨hApos, hAm, HL.out.2.1.filter _, hAa, by have := HBD.out.2.2.2.2.1; omega, hAv, HBD.out.2.1, by have := HBD.out.2.2.2.1; omega, h5.2.1, h5.1, h5.2.2⟩
        have hTl : ((⟨(node (q + 1) (atN q n L)).toArray⟩ : ByteArray)).size ≤ 100000000 := by
          show (node (q + 1) (atN q n L)).length ≤ _
          have := node_len (d := q + 1) hAm hAv
          have := HBD.out.2.1
          omega
        obtain ⟨T, hTe⟩ : ∃ T : ByteArray, (⟨(node (q + 1) (atN q n L)).toArray⟩ : ByteArray) = T := ⟨_, rfl⟩
        rw [hTe] at HIT hTl
        obtain ⟨U, hUe⟩ : ∃ U : ByteArray, (⟨(refN T.data.toList).toArray⟩ : ByteArray) = U := ⟨_, rfl⟩
        have hrf := fun w h => ref_any T w h hTl
        rw [hUe] at hrf
        have HRF : Hid (∀ w, K.Tabs w → Calls Tryd.prog 14 #[.string T] w fun e w' => e = .returned (.string U) ∧ Below w.heap.size w w') := hrf
        have HU : Hid ((⟨(kids q L n).toArray⟩ : ByteArray) = U) := by
          show _ = _
          rw [← hUe, ← hTe]
          unfold kids
          rw [if_neg hApos]
        have HPT : Hid ((∀ W L, PairsAt W (.slice p' k c') L → PairsAt W (.slice p1 a c1) (L.take a)) ∧ (∀ W L, PairsAt W (.slice p' k c') L → PairsAt W (.slice p2 (k - a) c2) (L.drop a))) := ⟨hpart, hrest⟩
        clear hpart hrest hAm hAl hAv hAa hTl hTe hUe hrf ha0 hApos
        go_wp2_with fail
        refine hhav.mono ?_
        rintro e w3 ⟨rfl, hB3⟩
        have HB3 : Hid (Below w.heap.size w w3) := HB.out.trans (hB3.mono HB.out.size)
        have hr3 := K.Below.holds hB3 hr
        have HCC : Hid (∀ w5, Below w3.heap.size w3 w5 → (BoxedT w5 bx ∧ PairsAt w5 (.slice p1 a c1) (atN q n L) ∧ K.Tabs w5)) := fun w5 h5 => by
          have hB5 := HB3.out.trans (h5.mono HB3.out.size)
          refine ⟨HBX.out.1.below hB5, ?_, HBX.out.2.below hB5⟩
          have := HPT.out.1 w5 _ (HF.out.2.below hB5)
          rw [HA.out.2, List.take_left' HA.out.1] at this
          exact this
        clear hhav hB3
        go_wp2_with fail
        refine wp_region_ctail (fun w5 => Below w3.heap.size w3 w5) 10 mixedP (by kernel_rfl) ((Below.refl _ _).drew) ?_
        simp only [List.take_succ_cons, List.take_zero, List.drop_succ_cons, List.drop_zero]
        go_big_quiet_step (fail)
        refine cq_val rfl (.func (.func 38) #[] #[.pointer (some ⟨bx, 0, none⟩)]) (fun w5 h5 => by have q : w5.cell? ⟨bx, 0, none⟩ = some (.func (.func 38) #[] #[.pointer (some ⟨bx, 0, none⟩)]) := (HCC.out w5 h5).1; go_simp) ?_
        go_frame
        go_big_quiet_step (fail)
        refine cq_val rfl (.int .i64 (q1 : Nat)) (fun w5 h5 => by have e := hq2; go_simp) ?_
        go_frame
        go_big_quiet_step (fail)
        go_big_quiet_step (fail)
        refine cq_val rfl (.slice p1 a c1) (fun w5 h5 => by have q := SL; go_simp) ?_
        go_frame
        refine cq_call rfl 38 #[.int .i64 (q1 : Nat), .slice p1 a c1, .pointer (some ⟨bx, 0, none⟩)] (fun _ => by go_simp) (.string T) (fun w5 h5 => (HIT.out w5 (HCC.out w5 h5)).mono fun e w6 ⟨he, h6⟩ => ⟨he, h5.trans (h6.mono h5.size)⟩) ?_
        go_frame
        refine cq_call rfl 14 #[.string T] (fun _ => by go_simp) (.string U) (fun w5 h5 => (HRF.out w5 (HCC.out w5 h5).2.2).mono fun e w6 ⟨he, h6⟩ => ⟨he, h5.trans (h6.mono h5.size)⟩) ?_
        go_frame
        refine cq_val rfl (.pointer (some ⟨g, n, none⟩)) (fun w5 h5 => by have e := hlti; go_simp) ?_
        go_frame
        refine wpQuiet_nil ?_
        intro w4 h4
        have hr4 := K.Below.holds h4 hr3
        have h4c : w4.cell? ⟨g, n, none⟩ = some (.string (refsT q L n n)) := by rw [hr4.cell n, HRS.out]; exact strA_get 16 _ n hlt
        have h4f := hr4.frozen n
        obtain ⟨old, hold⟩ : ∃ old, refsT q L n n = old := ⟨_, rfl⟩
        rw [hold] at h4c
        have HB4 : Hid (Below w.heap.size w w4) := HB3.out.trans (h4.mono HB3.out.size)
        clear hold h4 hr3 HB3 HCC
        go_wp2_with fail
        go_roundw
        case rel =>
          have hO := (K.Only.refl g w4).set n (.string U)
          have hB5 : Below w.heap.size w (w4.setCell ⟨g, n, none⟩ (.string U)) := K.Only.fresh HB4.out hO HGW.out
          refine ⟨n + 1, p2, k - a, c2, by omega, by simp, ?_, ⟨_, hr4.set n (.string U), ?_⟩, ⟨?_, ?_⟩, hB5⟩
          · first | rfl | (congr 1; omega)
          · show _ = _
            rw [HRS.out, refsT_step q L n hlt, HU.out]
          · have := HF.out.1
            rw [HA.out.2, List.length_append, HA.out.1] at this
            omega
          · have h6 := HPT.out.2 w _ HF.out.2
            rwa [HA.out.2, List.drop_left' HA.out.1] at h6
        case measure => simp [intOf]; omega
    · have hlti : ¬ (n : Int) < 16 := by omega
      have hn16 : n = 16 := by omega
      subst hn16
      have S3 : ∀ W : World, (Instr.sliceAt 9 (.string x) (some (.int .i64 (d : Int))) (some (.int .i64 (q : Int))) none).run Tryd.prog W = .ok (.string (x.extract d q)) W := fun W => slice_mid x d q hdq hqx W
      have hX2 : (x.extract d q).data.toList = ((kb (x, y)).take q).drop d := extract_data x d q
      obtain ⟨X2, hX2e⟩ : ∃ X2, x.extract d q = X2 := ⟨_, rfl⟩
      rw [hX2e] at S3 hX2
      have hkl : (kb (x, y)).length = m := HM.out.len _ HL.out.2.2.2.2.1
      have hX2s : X2.size ≤ 1000000 := by
        rw [← sizeB, hX2, List.length_drop, List.length_take]
        have := HBD.out.2.1; omega
      have hX2r : rightL X2.data.toList = true := by rw [hX2]; exact right_drop _ _ (right_take _ _ HL.out.2.2.2.2.2.2)
      have hRl : ∀ c, c < 16 → (refsT q L 16 c).size ≤ 1000000 := fun c hc => by
        unfold refsT
        rw [if_pos hc]
        show (kids q L c).length ≤ _
        have := kids_len q L c; omega
      have hbr := fun w => branch_any (refsT q L 16) w hRl
      rw [← HRS.out] at hbr
      have hbrl : (brL fun c => (refsT q L 16 c).data.toList) = brL (kids q L) := brL_congr fun c hc => by unfold refsT; rw [if_pos hc]
      rw [hbrl] at hbr
      have hbl := brL_len 41 (kids q L) (fun c _ => kids_len q L c) (by omega)
      obtain ⟨bt, hbt⟩ : ∃ bt : ByteArray, (⟨(brL (kids q L)).toArray⟩ : ByteArray) = bt := ⟨_, rfl⟩
      have hbtd : bt.data.toList = brL (kids q L) := by rw [← hbt]
      have hbts : bt.size ≤ 100000000 := by rw [← sizeB, hbtd]; omega
      rw [hbt] at hbr
      have hex := fun w h => extended_any X2 bt w h hX2s hbts hX2r
      have hR : (⟨(extd X2.data.toList bt.data.toList).toArray⟩ : ByteArray) = ⟨(node d L).toArray⟩ := by
        rw [node_many HM.out HL.out.2.2.2.2.2.1 HL.out.2.2.2.2.1, hbtd, hX2]
        unfold extd
        have hlen : (((kb (x, y)).take q).drop d).length = q - d := by
          rw [List.length_drop, List.length_take]
          have := HBD.out.2.2.2.2.1; omega
        by_cases hdq' : d < q
        · rw [if_pos hdq', if_neg (by intro e; rw [e] at hlen; simp at hlen; omega)]
        · rw [if_neg hdq', if_pos (List.eq_nil_of_length_eq_zero (by omega))]
      rw [hR.trans HRE.out] at hex
      have HEX : Hid (∀ w, K.Tabs w → Calls Tryd.prog 41 #[.string X2, .string bt] w fun e w' => e = .returned (.string R) ∧ Below w.heap.size w w') := hex
      have HBR : Hid (∀ w, Calls Tryd.prog 12 #[.agg rs] w fun e w' => e = .returned (.string bt) ∧ Below w.heap.size w w') := hbr
      have hrz : rs.size = 16 := by rw [HRS.out]; exact strA_size 16 _
      have hin : (Tryd.prog.info? 22).map (·.size) = some rs.size := by rw [hrz]; exact info16
      have HX : Hid (∀ w5, Below wr.heap.size wr w5 → K.Holds w5 g 22 rs ∧ K.Tabs w5) := fun w5 h5 => ⟨K.Below.holds h5 hr, (HBX.out.2.below HB.out).below h5⟩
      clear hX2 hX2e hX2s hX2r hRl hbr hbrl hbl hbt hbtd hbts hex hR hkl hr hn hlt
      go_wp2_with fail
      refine wp_region_all (fun w5 => Below wr.heap.size wr w5) mixedP (by kernel_rfl) ((Below.refl _ _).drew) ?_
      go_big_quiet_step (fail)
      go_big_quiet_step (fail)
      go_big_quiet_step (fail)
      refine cq_val rfl (.string X2) (fun w5 h5 => by have q := S3; go_simp) ?_
      go_frame
      refine cq_load 22 _ rfl g rfl rfl 22 rs _ (fun w5 h5 => (HX.out w5 h5).1) Tryd.underlying22 rfl hin ?_
      go_frame
      refine cq_call rfl 12 #[.agg rs] (fun _ => by go_simp) (.string bt) (fun w5 h5 => (HBR.out w5).mono fun e w6 ⟨he, h6⟩ => ⟨he, h5.trans (h6.mono h5.size)⟩) ?_
      go_frame
      refine cq_call rfl 41 #[.string X2, .string bt] (fun _ => by go_simp) (.string R) (fun w5 h5 => (HEX.out w5 (HX.out w5 h5).2).mono fun e w6 ⟨he, h6⟩ => ⟨he, h5.trans (h6.mono h5.size)⟩) ?_
      go_frame
      go_big_quiet_step (fail)
      refine wpQuiet_nil ?_
      intro w9 hB9
      simp only [Exit.then]
      go_at_K
      go_wp2_with fail
      go_ret
      exact ⟨rfl, HB.out.trans (hB9.mono HB.out.size)⟩
theorem tell_any (N : Nat) : ∀ (L : List Pr) (d m bx : Nat) (v : Value) (w : World), L.length < N → TellOk w L d m bx v → TellGoal w L d bx v := by
  induction N with
  | zero => intro L d m bx v w h; omega
  | succ N ih =>
    intro L d m bx v w hN h
    match L, h with
    | [], h => exact absurd rfl h.1
    | [p], h => exact tell_one p d m bx v w h
    | f :: l1 :: l, h => exact tell_many N ih f l1 l d m bx v w (by omega) h
end Go.Proofs.YtjdhdeffiigpbaaDoor
