/-
  MaskBits: the law's walk.
-/
import Derived.Test.YtbidoangdnmjfaaDoorMAwake
import Derived.Test.YtbidoangdnmjfaaDoorMQChkW
namespace Go.Proofs.YtbidoangdnmjfaaDoor
open Go Go.RowKit Go.Lib

def iv (x : Int) : Value := .int .i64 x
/-- A row of numbers of the call's own. -/
def OwnI (w : World) (base : Nat) (v : Value) (l : List Int) : Prop := w.ownsRow base 3 1 v l.length (l.map iv)
section
variable {w w' : World} {v : Value} {l : List Int} {base : Nat}
theorem infoIntM : ∃ i, Tryd.prog.info? 3 = some i ∧ i.zero = some (.int .i64 0) ∧ i.size = 1 ∧ i.bytes = 8 := by
  have h : (Tryd.prog.info? 3).map (fun i => (i.zero, i.size, i.bytes)) = some (some (.int .i64 0), 1, 8) := by kernel_rfl
  cases hq : Tryd.prog.info? 3 with
  | none => rw [hq] at h; cases h
  | some i =>
    rw [hq] at h
    simp only [Option.map_some, Option.some.injEq, Prod.mk.injEq] at h
    exact ⟨i, rfl, h.1, h.2.1, h.2.2⟩
theorem underInts : Tryd.prog.underlying 26 = some (.slice 3) := by kernel_rfl
theorem OwnI.nil (w : World) (base : Nat) : OwnI w base (.slice none 0 0) [] := World.ownsRow_nil _ _ _ _
theorem OwnI.below0 (h : OwnI w base v l) (hb : Below w.heap.size w w') : OwnI w' base v l := by
  refine ⟨h.1, ?_⟩
  rcases h.2 with q | ⟨g, cap, cur, rfl, h1, h2, h3⟩
  · exact .inl q
  · exact .inr ⟨g, cap, cur, rfl, h1, (hb.block g (Array.getElem?_eq_some_iff.1 h2).1).trans h2, h3⟩
theorem OwnI.ints (h : OwnI w base v l) : IntsM w v l := by
  rcases h.2 with ⟨rfl, h0⟩ | ⟨g, cap, cur, rfl, h1, h2, h3, h4, h5, h6⟩
  · exact .inl ⟨List.eq_nil_of_length_eq_zero h0, none, 0, rfl⟩
  · refine .inr ⟨g, 0, cap, rfl, fun i x hx => ?_⟩
    have hi := (List.getElem?_eq_some_iff.1 hx).1
    have q1 : (l.map iv)[i]? = some (iv x) := by rw [List.getElem?_map, hx]; rfl
    rw [← h6, List.getElem?_take, if_pos (by omega)] at q1
    rw [Nat.zero_add]
    exact (cell_of_row w g _ cur _ (0, 0) h2).trans (by simpa [iv] using q1)
theorem wpList_append_i {ops : Array Oper} {rest : List Oper} {o : Oper} {a : Act} {Q : Exit → Act → World → Prop} (hgd : o.guard = none) (s x : Operand)
    (ho : o.op = .call { callee := .builtin .append, args := #[s, x], argTypes := #[26, 26] }) {g : Nat} (z : Int) (hs : a.eval s = v) (hx : a.eval x = .slice (some ⟨g, 0, none⟩) 1 1) (hown : OwnI w base v l) (hg : Holds w g 3 #[.int .i64 z]) (hl : l.length ≤ 1000000000) (hbase : base ≤ w.heap.size)
    (h : ∀ v' w', OwnI w' base v' (l ++ [z]) → Below base w w' → wpList Tryd.prog ops Q rest (a.put o.dst v') w') : wpList Tryd.prog ops Q (o :: rest) a w := by
  refine wpList_plain hgd fun _ hK => ?_
  obtain ⟨i0, hi, hz0, hz1, hz2⟩ := infoIntM
  obtain ⟨v', w', hr, h2, h3, _⟩ := run_append_own (P := Tryd.prog) w base 26 o.type 3 i0 (.int .i64 0) 1 8 underInts hi hz0 hz1 hz2 rfl (by decide) v l.length (l.map iv) hown ⟨g, 0, none⟩ 1 1 [iv z] rfl (fun j u hu => by
    cases j with
    | zero => rw [add_plainH, hg.cell]; simpa [iv] using hu
    | succ j => simp at hu) (fun u hu => by rw [List.mem_singleton.1 hu]; rfl) (by unfold maxLen; omega) (by omega) hbase
  unfold Oper.wp execOp
  simp only [ho, resolve, invoke, builtin, Sem.run_bind, Sem.run_pure, Result.andThen_ok, List.map_toArray, List.map_cons, List.map_nil, hs, hx, hr]
  refine hK _ _ (h v' w' ?_ ?_)
  · unfold OwnI
    rw [List.length_append, List.map_append]
    exact h2
  · refine ⟨h3.os, h3.tape, h3.output, h3.size, fun k hk => h3.block k (by omega) fun e => ?_⟩
    have := (World.ownsRow.lt hown k e.symm).1
    omega
end
theorem IntsM.take {w : World} {p : Option Addr} {n c : Nat} {l : List Int} (h : IntsM w (.slice p n c) l) {k : Nat} (hk : k ≤ l.length) : IntsM w (.slice p k c) (l.take k) := by
  rcases h with ⟨rfl, _⟩ | ⟨b, o, c', e, h2⟩
  · obtain rfl : k = 0 := by simpa using hk
    exact .inl ⟨rfl, _, _, rfl⟩
  · injection e with e1 e2 e3
    subst e1 e2 e3
    refine .inr ⟨b, o, c, by rw [List.length_take, Nat.min_eq_left hk], fun i x hx => h2 i x ?_⟩
    rw [List.getElem?_take] at hx
    split at hx
    · exact hx
    · cases hx
/-- Is it one of the first k? -/
def inK (l : List Int) (i : Int) (k : Nat) : Bool := decide (0 ≤ i) && decide (i < 16) && decide (i ∈ l.take k)
theorem inK_zero (l : List Int) (i : Int) : inK l i 0 = false := by simp [inK]
theorem inK_all (l : List Int) (i : Int) : inK l i l.length = hasM (ofM l) i := by
  unfold inK hasM
  rw [List.take_length]
  by_cases h0 : 0 ≤ i
  · by_cases h1 : i < 16
    · obtain ⟨q, rfl⟩ := Int.eq_ofNat_of_zero_le h0
      rw [Int.toNat_natCast, testBit_ofM l q (by omega)]
    · simp [h1]
  · simp [h0]
theorem inK_succ {l : List Int} {k : Nat} {x : Int} (h : l[k]? = some x) (i : Int) : inK l i (k + 1) = (inK l i k || (decide (0 ≤ i) && decide (i < 16) && decide (x = i))) := by
  unfold inK
  rw [List.take_add_one, h]
  have e : decide (i ∈ l.take k ++ [x]) = (decide (i ∈ l.take k) || decide (x = i)) := by
    rw [← Bool.decide_or]
    exact decide_eq_decide.2 (by rw [List.mem_append, List.mem_singleton, @eq_comm _ i x])
  rw [show (some x).toList = [x] from rfl, e]
  cases decide (0 ≤ i) <;> cases decide (i < 16) <;> simp
/-- How many stand below i. -/
def cntI (m : Nat) (i : Int) : Nat := cntTo m (min i.toNat 16)
theorem cntI_succ (m : Nat) (i : Int) : cntI m (i + 1) = cntI m i + if hasM m i then 1 else 0 := by
  unfold cntI
  by_cases h0 : 0 ≤ i
  · obtain ⟨q, rfl⟩ := Int.eq_ofNat_of_zero_le h0
    by_cases h1 : q < 16
    · rw [hasM_k m q h1, show ((q : Int) + 1).toNat = q + 1 by omega, Int.toNat_natCast, Nat.min_eq_left (by omega), Nat.min_eq_left (by omega), cntTo_succ]
    · rw [hasM_no (by omega), Nat.min_eq_right (by omega), Nat.min_eq_right (by omega)]
      rfl
  · rw [hasM_no (by omega), show (i + 1).toNat = 0 by omega, show i.toNat = 0 by omega]
    rfl
theorem cntI_le (m : Nat) (i : Int) : cntI m i ≤ 16 := Nat.le_trans (cntTo_le _ _) (Nat.min_le_right _ _)
/-- Those below j. -/
def uptoL (m j : Nat) : List Int := ((List.range j).filter fun i => m.testBit i).map fun i : Nat => (i : Int)
theorem uptoL_succ (m j : Nat) : uptoL m (j + 1) = uptoL m j ++ if m.testBit j then [(j : Int)] else [] := by
  unfold uptoL
  rw [List.range_succ, List.filter_append, List.map_append]
  congr 1
  cases h : m.testBit j with
  | true => rw [List.filter_cons_of_pos h]; rfl
  | false => rw [List.filter_cons_of_neg (by simp [h])]; rfl
theorem uptoL_len (m j : Nat) : (uptoL m j).length = cntTo m j := by unfold uptoL cntTo; rw [List.length_map]
theorem uptoL_of (m : Nat) (hm : m < 65536) : ofM (uptoL m 16) = m := by
  refine eq_of_bits (ofM_lt _) hm fun i hi => ?_
  rw [testBit_ofM _ i hi, Bool.eq_iff_iff, decide_eq_true_eq]
  unfold uptoL
  rw [List.mem_map]
  constructor
  · rintro ⟨k, hk, e⟩
    obtain rfl : k = i := by omega
    exact (List.mem_filter.1 hk).2
  · intro h
    exact ⟨i, List.mem_filter.2 ⟨by simpa using hi, h⟩, rfl⟩
set_option maxRecDepth 8000 in
set_option maxHeartbeats 2000000 in
theorem bits_walk_c {w : World} {p : Option Addr} {n c m : Nat} {l : List Int} (hv : IntsM w (.slice p n c) l) (hnl : n = l.length) (hnc : n ≤ c) (hcm : c ≤ 9223372036854775807) (hm : m < 65536) (hT : DbAt w) (h40 : 40 < n) :
    Calls Tryd.prog 6 #[.slice p n c, .int .u16 (m : Nat)] w fun e w' => e = .returned (.bool true) ∧ Below w.heap.size w w' := by
  have haw := awake_any hT
  have hni : (n : Int) ≤ 9223372036854775807 := by omega
  have hci : (c : Int) ≤ 9223372036854775807 := by omega
  have h4i : (40 : Int) < n := by omega
  have h4c : (40 : Int) ≤ c := by omega
  obtain ⟨l', hl'⟩ : ∃ l', l.take 40 = l' := ⟨_, rfl⟩
  have hlen : l'.length = 40 := by rw [← hl', List.length_take]; omega
  have hv' : IntsM w (.slice p 40 c) l' := by rw [← hl']; exact hv.take (by omega)
  clear hl' hnl hv
  have HLN : Hid (l'.length = 40) := hlen
  have HV : Hid (IntsM w (.slice p 40 c) l') := hv'
  clear hlen hv'
  go_enter Tryd.func6, Tryd.ntmps6
  go_wp2_with fail
  refine haw.mono ?_
  rintro e w1 ⟨rfl, hB1⟩
  have HT1 : Hid (DbAt w1) := hT.below hB1
  have HB1 : Hid (Below w.heap.size w w1) := hB1
  have hof := of_any (HV.out.below hB1) (by rw [HLN.out]; omega)
  have HS : Hid (ofM l' < 65536) := ofM_lt _
  have HIN : Hid (∀ i, inK l' i 40 = hasM (ofM l') i) := fun i => by rw [← HLN.out]; exact inK_all _ i
  generalize hs : ofM l' = s at hof HS HIN
  clear hs haw hT hB1
  go_wp2_with fail
  refine hof.mono ?_
  rintro e w2 ⟨rfl, hw2⟩
  subst hw2
  clear hof
  go_wp2_with fail
  go_loopw [7, 8, 9, 10] (fun x y _ _ wr => ∃ i : Int, y = .int .i64 i ∧ -3 ≤ i ∧ i ≤ 20 ∧ x = .int .i64 (cntI s i : Nat) ∧ Below w2.heap.size w2 wr) (fun _ y _ _ _ => (20 - intOf y).toNat)
  case atStart => exact ⟨-3, rfl, by omega, by omega, rfl, Below.refl _ _⟩
  case round =>
    obtain ⟨i, rfl, hi0, hi1, rfl, hB⟩ := hrel
    have HB : Hid (Below w2.heap.size w2 wr) := hB
    clear hB
    by_cases hlt : i < 20
    · have hci2 := cntI_le s i
      have HN : Hid (cntI s (i + 1) = cntI s i + if hasM s i then 1 else 0) := cntI_succ s i
      generalize cntI s i = q at hci2 HN ⊢
      have hqi : (q : Int) ≤ 16 := by omega
      go_wp2_with fail
      rename World => wo
      go_loopw [9, 10] (fun x y wr => ∃ k : Nat, y = .int .i64 (k : Nat) ∧ k ≤ 40 ∧ x = .bool (inK l' i k) ∧ wr = wo) (fun _ y _ => 40 - (intOf y).toNat)
      case atStart => exact ⟨0, rfl, Nat.zero_le _, by rw [inK_zero], rfl⟩
      case round =>
        obtain ⟨k, rfl, hk, rfl, hww⟩ := hrel
        have hww' := hww.symm
        clear hww
        subst hww'
        by_cases hkn : k < 40
        · have hki : (k : Int) < 40 := by omega
          obtain ⟨x, hx⟩ : ∃ x, l'[k]? = some x := ⟨_, List.getElem?_eq_getElem (by have := HLN.out; omega)⟩
          obtain ⟨b, o, rfl, hnn, hc⟩ := ((HV.out.below HB1.out).below HB.out).at hx
          clear hnn
          have HI := inK_succ hx i
          cases hin : inK l' i k with
          | true =>
            have HI2 : Hid (inK l' i (k + 1) = true) := by rw [hin] at HI; rw [HI]; rfl
            clear HI hin hx
            go_wp2_with fail
            go_roundw
            case rel => exact ⟨k + 1, by go_num, by omega, by rw [HI2.out], trivial⟩
            case measure => simp [intOf]; omega
          | false =>
            by_cases hxi : x = i
            · by_cases h0 : 0 ≤ i
              · by_cases h16 : i < 16
                · have HI2 : Hid (inK l' i (k + 1) = true) := by show inK _ _ _ = true; rw [HI, decide_eq_true h0, decide_eq_true h16, decide_eq_true hxi]; simp
                  clear HI hin hx
                  go_wp2_with fail
                  go_roundw
                  case rel => exact ⟨k + 1, by go_num, by omega, by rw [HI2.out], trivial⟩
                  case measure => simp [intOf]; omega
                · have HI2 : Hid (inK l' i (k + 1) = false) := by show inK _ _ _ = false; rw [HI, hin, decide_eq_false h16]; simp
                  clear HI hin hx
                  go_wp2_with fail
                  go_roundw
                  case rel => exact ⟨k + 1, by go_num, by omega, by rw [HI2.out], trivial⟩
                  case measure => simp [intOf]; omega
              · have HI2 : Hid (inK l' i (k + 1) = false) := by show inK _ _ _ = false; rw [HI, hin, decide_eq_false h0]; simp
                clear HI hin hx
                go_wp2_with fail
                go_roundw
                case rel => exact ⟨k + 1, by go_num, by omega, by rw [HI2.out], trivial⟩
                case measure => simp [intOf]; omega
            · have HI2 : Hid (inK l' i (k + 1) = false) := by show inK _ _ _ = false; rw [HI, hin, decide_eq_false hxi]; simp
              clear HI hin hx
              go_wp2_with fail
              go_roundw
              case rel => exact ⟨k + 1, by go_num, by omega, by rw [HI2.out], trivial⟩
              case measure => simp [intOf]; omega
        · have hki : ¬ (k : Int) < 40 := by omega
          obtain ⟨rfl⟩ : k = 40 := by omega
          rw [HIN.out i]
          have hh := mhas_any HS.out i wo
          generalize hasM s i = r at hh HN ⊢
          go_wp2_with fail
          refine hh.mono ?_
          rintro e w3 ⟨rfl, hB3⟩
          have HB3 : Hid (Below w2.heap.size w2 w3) := below_new HB.out hB3
          clear hh hB3
          cases r with
          | true =>
            have HN2 : Hid (cntI s (i + 1) = q + 1) := HN.out
            clear HN
            go_wp2_with fail
            go_roundw
            case rel => exact ⟨i + 1, rfl, by omega, by omega, by rw [HN2.out]; go_num, HB3.out⟩
            case measure => simp [intOf]; omega
          | false =>
            have HN2 : Hid (cntI s (i + 1) = q) := HN.out
            clear HN
            go_wp2_with fail
            go_roundw
            case rel => exact ⟨i + 1, rfl, by omega, by omega, by rw [HN2.out], HB3.out⟩
            case measure => simp [intOf]; omega
    · obtain rfl : i = 20 := by omega
      have HQ : Hid (cntI s 20 = cntM s) := rfl
      generalize cntI s 20 = q at HQ ⊢
      clear hlt hi0 hi1
      go_wp2_with fail
      rename World => wo
      go_loopw [11, 12] (fun x y wr => ∃ j : Nat, y = .int .i64 (j : Nat) ∧ j ≤ 16 ∧ OwnI wr wo.heap.size x (uptoL m j) ∧ Below wo.heap.size wo wr) (fun _ y _ => 16 - (intOf y).toNat)
      case atStart => exact ⟨0, rfl, by omega, OwnI.nil _ _, Below.refl _ _⟩
      case round =>
        obtain ⟨j, rfl, hj, ho, hB⟩ := hrel
        by_cases hjlt : j < 16
        · have hji : (j : Int) < 16 := by omega
          have hh := mhas_any hm (j : Int) wr
          rw [hasM_k m j hjlt] at hh
          have HU := uptoL_succ m j
          have HL : Hid ((uptoL m j).length ≤ 16) := by
            have := cntTo_le m j
            rw [← uptoL_len] at this
            show _ ≤ _
            omega
          obtain ⟨p5, c5, rfl⟩ := ho.ints.shape
          cases hb : m.testBit j with
          | true =>
            rw [hb] at hh HU
            have HU2 : Hid (uptoL m (j + 1) = uptoL m j ++ [(j : Int)]) := HU
            clear HU hb
            generalize uptoL m j = K at HU2 ho HL ⊢
            obtain ⟨kl, hkl⟩ : ∃ kl, K.length = kl := ⟨_, rfl⟩
            have HKL : Hid (K.length = kl) := hkl
            rw [hkl] at ho ⊢
            clear hkl
            go_wp2_with fail
            refine hh.mono ?_
            rintro e w3 ⟨rfl, hB3⟩
            clear hh
            have hb1 := hB.size
            have hb3 := hB3.size
            have ho3 := (ho.below0 hB3).below0 (below_new1 w3 (.cells #[.int .i64 (j : Int)] 3))
            have hh3 := Holds.new w3 3 #[.int .i64 (j : Int)]
            go_wp2_with (at_builtin; refine HaltM.out ?_)
            unfold HaltM
            refine wpList_append_i rfl _ _ rfl (j : Int) rfl rfl ho3 hh3 (by have := HL.out; omega) (by simp; omega) ?_
            intro v5 w5 ho5 hB5
            obtain ⟨p6, c6, rfl⟩ := ho5.ints.shape
            have HBB : Hid (Below wo.heap.size wo w5) := (below_new hB hB3).trans (((Below.refl _ w3).alloc (by omega) _).trans hB5)
            go_wp2_with fail
            go_roundw
            case rel => exact ⟨j + 1, by go_num, by omega, by rw [HU2.out]; rw [List.length_append] at ho5; exact ho5, HBB.out⟩
            case measure => simp [intOf]; omega
          | false =>
            rw [hb] at hh HU
            have HU2 : Hid (uptoL m (j + 1) = uptoL m j) := by rw [HU]; simp [Hid]
            clear HU hb
            generalize uptoL m j = K at HU2 ho HL ⊢
            go_wp2_with fail
            refine hh.mono ?_
            rintro e w3 ⟨rfl, hB3⟩
            clear hh
            have ho3 := ho.below0 hB3
            go_wp2_with fail
            go_roundw
            case rel => exact ⟨j + 1, by go_num, by omega, by rw [HU2.out]; exact ho3, below_new hB hB3⟩
            case measure => simp [intOf]; omega
        · obtain rfl : j = 16 := by omega
          have HTw : Hid (DbAt wr) := (HT1.out.below HB.out).below hB
          have h1 := count_any HS.out HTw.out
          have HBB : Hid (Below w2.heap.size w2 wr) := below_new HB.out hB
          have HUO := uptoL_of m hm
          have HUL : Hid ((uptoL m 16).length = cntM m) := by rw [uptoL_len]; rfl
          have hml := cntM_le m
          rw [← HQ.out] at h1
          obtain ⟨p5, c5, rfl⟩ := ho.ints.shape
          have hoi := ho.ints
          rw [HUL.out] at ho hoi ⊢
          clear ho hB
          go_wp2_with fail
          refine h1.mono ?_
          rintro e w3 ⟨rfl, hB3⟩
          clear h1
          have h2 := of_any (hoi.below hB3) (by rw [HUL.out]; omega)
          rw [HUO] at h2
          go_wp2_with fail
          refine h2.mono ?_
          rintro e w4 ⟨rfl, hw4⟩
          have hw5 := hw4.symm
          subst hw5
          clear h2 hw4
          have h3 := count_any hm (HTw.out.below hB3)
          go_wp2_with fail
          refine h3.mono ?_
          rintro e w5 ⟨rfl, hB5⟩
          clear h3
          go_wp2_with fail
          go_ret
          exact ⟨rfl, below_new HB1.out (below_new (below_new HBB.out hB3) hB5)⟩
set_option maxRecDepth 8000 in
set_option maxHeartbeats 2000000 in
theorem bits_walk_n {w : World} {p : Option Addr} {n c m : Nat} {l : List Int} (hv : IntsM w (.slice p n c) l) (hnl : n = l.length) (hnc : n ≤ c) (hcm : c ≤ 9223372036854775807) (hm : m < 65536) (hT : DbAt w) (h40 : ¬ 40 < n) :
    Calls Tryd.prog 6 #[.slice p n c, .int .u16 (m : Nat)] w fun e w' => e = .returned (.bool true) ∧ Below w.heap.size w w' := by
  have haw := awake_any hT
  have hni : (n : Int) ≤ 9223372036854775807 := by omega
  have hci : (c : Int) ≤ 9223372036854775807 := by omega
  have h4i : ¬ (40 : Int) < n := by omega
  have hnci : (n : Int) ≤ c := by omega
  obtain ⟨l', hl'⟩ : ∃ l', l = l' := ⟨_, rfl⟩
  subst hl'
  have hlen : l.length = n := hnl.symm
  have hv' := hv
  clear hnl hv
  have HLN : Hid (l.length = n) := hlen
  have HV : Hid (IntsM w (.slice p n c) l) := hv'
  clear hlen hv'
  go_enter Tryd.func6, Tryd.ntmps6
  go_wp2_with fail
  refine haw.mono ?_
  rintro e w1 ⟨rfl, hB1⟩
  have HT1 : Hid (DbAt w1) := hT.below hB1
  have HB1 : Hid (Below w.heap.size w w1) := hB1
  have hof := of_any (HV.out.below hB1) (by rw [HLN.out]; omega)
  have HS : Hid (ofM l < 65536) := ofM_lt _
  have HIN : Hid (∀ i, inK l i n = hasM (ofM l) i) := fun i => by rw [← HLN.out]; exact inK_all _ i
  generalize hs : ofM l = s at hof HS HIN
  clear hs haw hT hB1
  go_wp2_with fail
  refine hof.mono ?_
  rintro e w2 ⟨rfl, hw2⟩
  subst hw2
  clear hof
  go_wp2_with fail
  go_loopw [7, 8, 9, 10] (fun x y _ _ wr => ∃ i : Int, y = .int .i64 i ∧ -3 ≤ i ∧ i ≤ 20 ∧ x = .int .i64 (cntI s i : Nat) ∧ Below w2.heap.size w2 wr) (fun _ y _ _ _ => (20 - intOf y).toNat)
  case atStart => exact ⟨-3, rfl, by omega, by omega, rfl, Below.refl _ _⟩
  case round =>
    obtain ⟨i, rfl, hi0, hi1, rfl, hB⟩ := hrel
    have HB : Hid (Below w2.heap.size w2 wr) := hB
    clear hB
    by_cases hlt : i < 20
    · have hci2 := cntI_le s i
      have HN : Hid (cntI s (i + 1) = cntI s i + if hasM s i then 1 else 0) := cntI_succ s i
      generalize cntI s i = q at hci2 HN ⊢
      have hqi : (q : Int) ≤ 16 := by omega
      go_wp2_with fail
      rename World => wo
      go_loopw [9, 10] (fun x y wr => ∃ k : Nat, y = .int .i64 (k : Nat) ∧ k ≤ n ∧ x = .bool (inK l i k) ∧ wr = wo) (fun _ y _ => n - (intOf y).toNat)
      case atStart => exact ⟨0, rfl, Nat.zero_le _, by rw [inK_zero], rfl⟩
      case round =>
        obtain ⟨k, rfl, hk, rfl, hww⟩ := hrel
        have hww' := hww.symm
        clear hww
        subst hww'
        by_cases hkn : k < n
        · have hki : (k : Int) < n := by omega
          obtain ⟨x, hx⟩ : ∃ x, l[k]? = some x := ⟨_, List.getElem?_eq_getElem (by have := HLN.out; omega)⟩
          obtain ⟨b, o, rfl, hnn, hc⟩ := ((HV.out.below HB1.out).below HB.out).at hx
          clear hnn
          have HI := inK_succ hx i
          cases hin : inK l i k with
          | true =>
            have HI2 : Hid (inK l i (k + 1) = true) := by rw [hin] at HI; rw [HI]; rfl
            clear HI hin hx
            go_wp2_with fail
            go_roundw
            case rel => exact ⟨k + 1, by go_num, by omega, by rw [HI2.out], trivial⟩
            case measure => simp [intOf]; omega
          | false =>
            by_cases hxi : x = i
            · by_cases h0 : 0 ≤ i
              · by_cases h16 : i < 16
                · have HI2 : Hid (inK l i (k + 1) = true) := by show inK _ _ _ = true; rw [HI, decide_eq_true h0, decide_eq_true h16, decide_eq_true hxi]; simp
                  clear HI hin hx
                  go_wp2_with fail
                  go_roundw
                  case rel => exact ⟨k + 1, by go_num, by omega, by rw [HI2.out], trivial⟩
                  case measure => simp [intOf]; omega
                · have HI2 : Hid (inK l i (k + 1) = false) := by show inK _ _ _ = false; rw [HI, hin, decide_eq_false h16]; simp
                  clear HI hin hx
                  go_wp2_with fail
                  go_roundw
                  case rel => exact ⟨k + 1, by go_num, by omega, by rw [HI2.out], trivial⟩
                  case measure => simp [intOf]; omega
              · have HI2 : Hid (inK l i (k + 1) = false) := by show inK _ _ _ = false; rw [HI, hin, decide_eq_false h0]; simp
                clear HI hin hx
                go_wp2_with fail
                go_roundw
                case rel => exact ⟨k + 1, by go_num, by omega, by rw [HI2.out], trivial⟩
                case measure => simp [intOf]; omega
            · have HI2 : Hid (inK l i (k + 1) = false) := by show inK _ _ _ = false; rw [HI, hin, decide_eq_false hxi]; simp
              clear HI hin hx
              go_wp2_with fail
              go_roundw
              case rel => exact ⟨k + 1, by go_num, by omega, by rw [HI2.out], trivial⟩
              case measure => simp [intOf]; omega
        · have hki : ¬ (k : Int) < n := by omega
          obtain ⟨rfl⟩ : k = n := by omega
          rw [HIN.out i]
          have hh := mhas_any HS.out i wo
          generalize hasM s i = r at hh HN ⊢
          go_wp2_with fail
          refine hh.mono ?_
          rintro e w3 ⟨rfl, hB3⟩
          have HB3 : Hid (Below w2.heap.size w2 w3) := below_new HB.out hB3
          clear hh hB3
          cases r with
          | true =>
            have HN2 : Hid (cntI s (i + 1) = q + 1) := HN.out
            clear HN
            go_wp2_with fail
            go_roundw
            case rel => exact ⟨i + 1, rfl, by omega, by omega, by rw [HN2.out]; go_num, HB3.out⟩
            case measure => simp [intOf]; omega
          | false =>
            have HN2 : Hid (cntI s (i + 1) = q) := HN.out
            clear HN
            go_wp2_with fail
            go_roundw
            case rel => exact ⟨i + 1, rfl, by omega, by omega, by rw [HN2.out], HB3.out⟩
            case measure => simp [intOf]; omega
    · obtain rfl : i = 20 := by omega
      have HQ : Hid (cntI s 20 = cntM s) := rfl
      generalize cntI s 20 = q at HQ ⊢
      clear hlt hi0 hi1
      go_wp2_with fail
      rename World => wo
      go_loopw [11, 12] (fun x y wr => ∃ j : Nat, y = .int .i64 (j : Nat) ∧ j ≤ 16 ∧ OwnI wr wo.heap.size x (uptoL m j) ∧ Below wo.heap.size wo wr) (fun _ y _ => 16 - (intOf y).toNat)
      case atStart => exact ⟨0, rfl, by omega, OwnI.nil _ _, Below.refl _ _⟩
      case round =>
        obtain ⟨j, rfl, hj, ho, hB⟩ := hrel
        by_cases hjlt : j < 16
        · have hji : (j : Int) < 16 := by omega
          have hh := mhas_any hm (j : Int) wr
          rw [hasM_k m j hjlt] at hh
          have HU := uptoL_succ m j
          have HL : Hid ((uptoL m j).length ≤ 16) := by
            have := cntTo_le m j
            rw [← uptoL_len] at this
            show _ ≤ _
            omega
          obtain ⟨p5, c5, rfl⟩ := ho.ints.shape
          cases hb : m.testBit j with
          | true =>
            rw [hb] at hh HU
            have HU2 : Hid (uptoL m (j + 1) = uptoL m j ++ [(j : Int)]) := HU
            clear HU hb
            generalize uptoL m j = K at HU2 ho HL ⊢
            obtain ⟨kl, hkl⟩ : ∃ kl, K.length = kl := ⟨_, rfl⟩
            have HKL : Hid (K.length = kl) := hkl
            rw [hkl] at ho ⊢
            clear hkl
            go_wp2_with fail
            refine hh.mono ?_
            rintro e w3 ⟨rfl, hB3⟩
            clear hh
            have hb1 := hB.size
            have hb3 := hB3.size
            have ho3 := (ho.below0 hB3).below0 (below_new1 w3 (.cells #[.int .i64 (j : Int)] 3))
            have hh3 := Holds.new w3 3 #[.int .i64 (j : Int)]
            go_wp2_with (at_builtin; refine HaltM.out ?_)
            unfold HaltM
            refine wpList_append_i rfl _ _ rfl (j : Int) rfl rfl ho3 hh3 (by have := HL.out; omega) (by simp; omega) ?_
            intro v5 w5 ho5 hB5
            obtain ⟨p6, c6, rfl⟩ := ho5.ints.shape
            have HBB : Hid (Below wo.heap.size wo w5) := (below_new hB hB3).trans (((Below.refl _ w3).alloc (by omega) _).trans hB5)
            go_wp2_with fail
            go_roundw
            case rel => exact ⟨j + 1, by go_num, by omega, by rw [HU2.out]; rw [List.length_append] at ho5; exact ho5, HBB.out⟩
            case measure => simp [intOf]; omega
          | false =>
            rw [hb] at hh HU
            have HU2 : Hid (uptoL m (j + 1) = uptoL m j) := by rw [HU]; simp [Hid]
            clear HU hb
            generalize uptoL m j = K at HU2 ho HL ⊢
            go_wp2_with fail
            refine hh.mono ?_
            rintro e w3 ⟨rfl, hB3⟩
            clear hh
            have ho3 := ho.below0 hB3
            go_wp2_with fail
            go_roundw
            case rel => exact ⟨j + 1, by go_num, by omega, by rw [HU2.out]; exact ho3, below_new hB hB3⟩
            case measure => simp [intOf]; omega
        · obtain rfl : j = 16 := by omega
          have HTw : Hid (DbAt wr) := (HT1.out.below HB.out).below hB
          have h1 := count_any HS.out HTw.out
          have HBB : Hid (Below w2.heap.size w2 wr) := below_new HB.out hB
          have HUO := uptoL_of m hm
          have HUL : Hid ((uptoL m 16).length = cntM m) := by rw [uptoL_len]; rfl
          have hml := cntM_le m
          rw [← HQ.out] at h1
          obtain ⟨p5, c5, rfl⟩ := ho.ints.shape
          have hoi := ho.ints
          rw [HUL.out] at ho hoi ⊢
          clear ho hB
          go_wp2_with fail
          refine h1.mono ?_
          rintro e w3 ⟨rfl, hB3⟩
          clear h1
          have h2 := of_any (hoi.below hB3) (by rw [HUL.out]; omega)
          rw [HUO] at h2
          go_wp2_with fail
          refine h2.mono ?_
          rintro e w4 ⟨rfl, hw4⟩
          have hw5 := hw4.symm
          subst hw5
          clear h2 hw4
          have h3 := count_any hm (HTw.out.below hB3)
          go_wp2_with fail
          refine h3.mono ?_
          rintro e w5 ⟨rfl, hB5⟩
          clear h3
          go_wp2_with fail
          go_ret
          exact ⟨rfl, below_new HB1.out (below_new (below_new HBB.out hB3) hB5)⟩
theorem bits_walk {w : World} {p : Option Addr} {n c m : Nat} {l : List Int} (hv : IntsM w (.slice p n c) l) (hnl : n = l.length) (hnc : n ≤ c) (hcm : c ≤ 9223372036854775807) (hm : m < 65536) (hT : DbAt w) :
    Calls Tryd.prog 6 #[.slice p n c, .int .u16 (m : Nat)] w fun e w' => e = .returned (.bool true) ∧ Below w.heap.size w w' := by
  by_cases h : 40 < n
  · exact bits_walk_c hv hnl hnc hcm hm hT h
  · exact bits_walk_n hv hnl hnc hcm hm hT h
end Go.Proofs.YtbidoangdnmjfaaDoor
