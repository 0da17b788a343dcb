/-
  The program's cellBytes.
-/
import Derived.Test.YtdgfjaidnedaiaaENumW
import Derived.Test.YtdgfjaidnedaiaaEMade9W
namespace Go.Proofs.Ytdgfjaidnedaiaa
open Go Go.RowKit Go.Lib

/-- A cell's bytes. -/
def bytesC (leaf : Bool) (c : Cl) : List UInt8 := beB 1 c.k.size ++ c.k.data.toList ++ (if leaf = true then (if c.p = 0 then beB 1 0 ++ beB 1 c.v.size ++ c.v.data.toList else beB 1 1 ++ (beB 4 c.p.toNat ++ beB 4 c.s.toNat)) else beB 4 c.p.toNat)
theorem bytesC_len (leaf : Bool) (c : Cl) : (bytesC leaf c).length = sizeC leaf c := by
  have h1 : c.k.data.toList.length = c.k.size := by simp
  have h2 : c.v.data.toList.length = c.v.size := by simp
  unfold bytesC sizeC
  simp only [List.length_append, beB_len, h1]
  split
  · split
    · simp only [List.length_append, beB_len, h2]
    · simp only [List.length_append, beB_len]
  · simp only [beB_len]
theorem mem2 {a b x M : Nat} (ha : a < M) (hb : b < M) (h : x ∈ [a, b]) : x < M := by
  rcases List.mem_cons.1 h with h | h
  · omega
  · rw [List.mem_singleton.1 h]; exact hb
theorem numsB_one (z a : Nat) : numsB z [a] = beB z a := by simp [numsB]
theorem numsB_two (z a b : Nat) : numsB z [a, b] = beB z a ++ beB z b := by simp [numsB]
theorem box_ints (w : World) (xs : List Nat) : ∃ W g, w.alloc (.cells (intCells xs) 3) = W ∧ w.heap.size = g ∧ Below w.heap.size w W ∧ Holds W g 3 (intCells xs) := ⟨_, _, rfl, rfl, below_new1 _ _, Holds.new _ _ _⟩
section
variable {ops : Array Oper} {Q : Exit → Act → World → Prop} {Kt : Act → World → Prop} {k : Nat} {op : Oper} {a : Act} {w : World} {v : Value} {l : List UInt8} {base : Nat}
theorem op_append_txt (d : Option Tmp) (hdd : op.dst = d) (hk : ops[k]? = some op) (hw : Region.wanted op (yielded ops a.tmps) = true) (s x : Operand)
    (ho : op.op = .call { callee := .builtin .append, args := #[s, x], argTypes := #[52, 9] }) {t : ByteArray} (hs : a.eval s = v) (hx : a.eval x = .string t) (hown : OwnB w base v l) (hl : l.length + t.size ≤ 1000000000) (hbase : base ≤ w.heap.size)
    (h : ∀ v' w', OwnB w' base v' (l ++ t.data.toList) → KU w w' → Below base w w' → Kt (a.put d v') w') : wpOp Try.prog ops Q k Kt a w := by
  obtain ⟨v', w', hr, h2, h3, h4⟩ := run_append_txt op.type hown t hl hbase
  refine op_val d hdd hk hw (v := v') (w' := w') ?_ (h v' w' h2 h3 h4)
  unfold execOp
  simp only [ho, resolve, invoke, builtin, Sem.run_bind, Sem.run_pure, Result.andThen_ok, List.map_toArray, List.map_cons, List.map_nil, hs, hx, hr]
end
theorem ldStrH {w : World} {g i : Nat} {t : TypeId} {cs : Array Value} {s : ByteArray} (h : Holds w g t cs) (hc : cs[i]? = some (.string s)) : (loadVar 9 ⟨g, i, none⟩).run Try.prog w = .ok (.string s) w := ldStr ((h.cell i).trans hc)
theorem ldIntH {w : World} {g i : Nat} {t : TypeId} {cs : Array Value} {s : Int} (h : Holds w g t cs) (hc : cs[i]? = some (.int .i64 s)) : (loadVar 3 ⟨g, i, none⟩).run Try.prog w = .ok (.int .i64 s) w := ldInt ((h.cell i).trans hc)
set_option maxRecDepth 8000 in
set_option maxHeartbeats 4000000 in
theorem cellBytes_any {w : World} {base : Nat} {v : Value} {l : List UInt8} (hown : OwnB w base v l) (hbase : base ≤ w.heap.size) (hl : l.length ≤ 10000000) (leaf : Bool) (c : Cl) (hm : mayB leaf c = true) :
    Calls Try.prog 33 #[v, .bool leaf, cla c] w fun e w' => ∃ v', e = .returned v' ∧ OwnB w' base v' (l ++ bytesC leaf c) ∧ Below base w w' := by
  have hnot := run_notE
  obtain ⟨hks, hvs⟩ := mayB_short hm
  have hnum : 0 ≤ c.p ∧ c.p < 2147483648 ∧ 0 ≤ c.s ∧ c.s < 2147483648 := by
    unfold mayB at hm
    rw [Bool.and_eq_true] at hm
    have h2 := hm.2
    by_cases hc : leaf = true ∧ c.p = 0
    · rw [if_pos hc] at h2
      have := of_decide_eq_true h2
      omega
    · rw [if_neg hc, Bool.and_eq_true] at h2
      have h3 := of_decide_eq_true h2.1
      have h4 := h2.2
      by_cases hlf : leaf = true
      · rw [if_pos hlf] at h4
        have := of_decide_eq_true h4
        omega
      · rw [if_neg hlf] at h4
        have := of_decide_eq_true h4
        omega
  obtain ⟨R, hR⟩ : ∃ R, bytesC leaf c = R := ⟨_, rfl⟩
  rw [hR]
  unfold bytesC at hR
  obtain ⟨ck, cv, cp, cs⟩ := c
  dsimp only at hR hks hvs hnum
  unfold cla
  dsimp only
  obtain ⟨p, rfl⟩ : ∃ p : Nat, cp = (p : Int) := ⟨cp.toNat, by omega⟩
  obtain ⟨s, rfl⟩ : ∃ s : Nat, cs = (s : Int) := ⟨cs.toNat, by omega⟩
  rw [Int.toNat_natCast, Int.toNat_natCast] at hR
  have HR : Hid (_ = R) := hR
  obtain ⟨hp0, hp1, hs0, hs1⟩ := hnum
  clear hR hm hp0 hs0
  obtain ⟨W0, g, hW0, hg, hB0, hh0⟩ : ∃ W0 g, w.alloc (.cells #[.string ck, .string cv, .int .i64 (p : Int), .int .i64 (s : Int)] 27) = W0 ∧ w.heap.size = g ∧ Below w.heap.size w W0 ∧ Holds W0 g 27 #[.string ck, .string cv, .int .i64 (p : Int), .int .i64 (s : Int)] := ⟨_, _, rfl, rfl, below_new1 _ _, Holds.new _ _ _⟩
  have hown0 := hown.below0 hB0
  have hbs0 : base ≤ W0.heap.size := Nat.le_trans hbase hB0.size
  have HB0 : Hid (Below base w W0) := hB0.mono hbase
  have hht : ∀ W, KU W0 W → Holds W g 27 #[.string ck, .string cv, .int .i64 (p : Int), .int .i64 (s : Int)] := fun W hW => hW.holds hh0 (by decide)
  obtain ⟨ks, hkse⟩ : ∃ ks, ck.size = ks := ⟨_, rfl⟩
  have HKS : Hid (ck.size = ks) := hkse
  obtain ⟨pv, cv0, rfl⟩ := hown.shape
  obtain ⟨ll, hll⟩ : ∃ ll, l.length = ll := ⟨_, rfl⟩
  have HLL : Hid (l.length = ll) := hll
  rw [hll] at hown hown0 hl ⊢
  clear hown hll
  go_enter Try.func33, Try.ntmps33
  go_wp2_with fail
  refine wp_region_tree (fun W => KU W0 W) [0, 1, 2, 3, 6, 7] (.one 4 (.one 5 (.one 8 (.one 9 .nil)))) mixedP (by kernel_rfl) rfl (by kernel_rfl) (fun _ _ _ d _ h => by cases d <;> exact h) (KU.below (Below.refl _ _).drew) ?_
  refine tk_val (some 7) rfl rfl rfl (.slice pv ll cv0) (fun _ => by go_simp) ?_
  go_frame
  refine tk_val (some 8) rfl rfl rfl (.pointer (some ⟨g, 0, none⟩)) (fun _ => by go_simp) ?_
  go_frame
  refine tk_ld (some 9) rfl rfl rfl _ _ rfl rfl (fun W hW => ldStrH (hht W hW) rfl) ?_
  go_frame
  refine tk_val (some 10) rfl rfl rfl (.int .i64 (ks : Nat)) (fun _ => by go_simp) ?_
  go_frame
  refine tk_val (some 13) rfl rfl rfl (.pointer (some ⟨g, 0, none⟩)) (fun _ => by go_simp) ?_
  go_frame
  refine tk_ld (some 14) rfl rfl rfl _ _ rfl rfl (fun W hW => ldStrH (hht W hW) rfl) ?_
  go_frame
  refine tk_nil ?_
  obtain ⟨W1, g1, hW1, hg1, hB1, hh1⟩ := box_ints W0.drew [ks]
  have hC1 : KU W0 W1 := (KU.below (Below.refl _ _).drew).trans (KU.below hB1)
  have hD1 : Below base W0 W1 := below_drewL (hB1.mono (show base ≤ W0.drew.heap.size from hbs0))
  refine op_val (some 11) rfl rfl rfl (v := .slice (some ⟨g1, 0, none⟩) 1 1) (w' := W1) (by unfold intCells at hW1; go_simp; exact hW1) ?_
  refine ⟨hC1, ?_⟩
  go_frame
  have hown1 : OwnB W1 base (.slice pv ll cv0) l := OwnB.below0 (w := W0.drew) hown0 hB1
  have hn1 := numbers_any hown1 (Nat.le_trans hbs0 hC1.size) (by have := HLL.out; omega) (z := 1) (by omega) hh1 (fun x hx => by rw [List.mem_singleton.1 hx]; omega) (by simp)
  rw [numsB_one] at hn1
  refine op_call (some 12) rfl rfl rfl (f := 32) (vs := #[.slice pv ll cv0, .int .i64 ((1 : Nat) : Int), .slice (some ⟨g1, 0, none⟩) 1 1]) (by go_simp) ?_
  refine hn1.mono ?_
  rintro e w2 ⟨v2, rfl, hown2, hC2, hD2⟩
  have hC02 := hC1.trans hC2
  refine ⟨_, rfl, hC02, ?_⟩
  go_frame
  have hL1 : (l ++ beB 1 ks).length ≤ 10000001 := by rw [List.length_append, beB_len, HLL.out]; omega
  refine op_append_txt (some 15) rfl rfl rfl _ _ rfl rfl rfl hown2 (by omega) (Nat.le_trans hbs0 hC02.size) ?_
  intro v3 w3 hown3 hC3 hD3
  have hC03 := hC02.trans hC3
  have hD03 := hD1.trans (hD2.trans hD3)
  refine ⟨hC03, ?_⟩
  go_frame
  obtain ⟨p3, c3, rfl⟩ := hown3.shape
  have hL3 : (l ++ beB 1 ks ++ ck.data.toList).length ≤ 10000200 := by
    have : ck.data.toList.length = ck.size := by simp
    rw [List.length_append, this]; omega
  obtain ⟨l3, hl3⟩ : ∃ l3, l ++ beB 1 ks ++ ck.data.toList = l3 := ⟨_, rfl⟩
  rw [hl3] at hown3 hL3 ⊢
  obtain ⟨m3, hm3⟩ : ∃ m3, l3.length = m3 := ⟨_, rfl⟩
  rw [hm3] at hown3 ⊢
  refine op_val (some 0) rfl rfl rfl (v := .slice p3 m3 c3) (w' := w3) (by go_simp) ?_
  refine ⟨hC03, ?_⟩
  go_frame
  refine then_normalE ?_
  go_at_K
  have HK : Hid (OwnB w3 base (.slice p3 m3 c3) l3 ∧ Below base w w3 ∧ base ≤ w3.heap.size ∧ l3.length ≤ 10000200 ∧ l3 = l ++ beB 1 ck.size ++ ck.data.toList) := ⟨hown3, HB0.out.trans hD03, Nat.le_trans hbs0 hC03.size, hL3, by rw [HKS.out]; exact hl3.symm⟩
  have hh3 := hht w3 hC03
  have y0 : w3.cell? ⟨g, 0, none⟩ = some (.string ck) := hh3.cell 0
  have y1 : w3.cell? ⟨g, 1, none⟩ = some (.string cv) := hh3.cell 1
  have y2 : w3.cell? ⟨g, 2, none⟩ = some (.int .i64 (p : Int)) := hh3.cell 2
  have y3 : w3.cell? ⟨g, 3, none⟩ = some (.int .i64 (s : Int)) := hh3.cell 3
  have HH3 : Hid (Holds w3 g 27 #[.string ck, .string cv, .int .i64 (p : Int), .int .i64 (s : Int)]) := hh3
  clear hown3 hL3 hl3 hm3 hC03 hD03 hC3 hD3 hC02 hC2 hD2 hown2 hL1 hn1 hown1 hC1 hD1 hW1 hg1 hB1 hh1 hht hh0 hown0 hB0 hh3 hkse
  cases leaf with
  | false =>
    obtain ⟨W5, g5, hW5, hg5, hB5, hh5⟩ := box_ints w3 [p]
    have hown5 := HK.out.1.below0 hB5
    have hn5 := numbers_any hown5 (Nat.le_trans HK.out.2.2.1 hB5.size) (by have := HK.out.2.2.2.1; omega) (z := 4) (by omega) hh5 (fun x hx => by rw [List.mem_singleton.1 hx]; omega) (by simp)
    rw [numsB_one] at hn5
    simp only [List.length_cons, List.length_nil] at hn5
    unfold intCells at hW5
    simp only [List.map_cons, List.map_nil] at hW5
    have HB5 : Hid (Below base w W5) := HK.out.2.1.trans (hB5.mono HK.out.2.2.1)
    clear hB5 hh5 hown5
    go_wp2_with (go_at_call 32; refine hn5.mono ?_; rintro e w6 ⟨v6, rfl, hown6, hC6, hD6⟩)
    go_ret
    refine ⟨_, rfl, ?_, HB5.out.trans hD6⟩
    rw [← HR.out]
    simp only [Bool.false_eq_true, if_false]
    rw [← List.append_assoc, ← List.append_assoc, ← HK.out.2.2.2.2]
    exact hown6
  | true =>
    by_cases hp : p = 0
    · have hpn : ((p : Int) != 0) = false := by simpa using hp
      have HP : Hid (p = 0) := hp
      obtain ⟨vs, hvse⟩ : ∃ vs, cv.size = vs := ⟨_, rfl⟩
      have HVS : Hid (cv.size = vs) := hvse
      clear hp y0 y3
      go_wp2_with fail
      refine wp_region_tree (fun W => KU w3 W) [0, 1, 2, 3, 6, 7] (.one 4 (.one 5 (.one 8 (.one 9 .nil)))) mixedP (by kernel_rfl) rfl (by kernel_rfl) (fun _ _ _ d _ h => by cases d <;> exact h) (KU.below (Below.refl _ _).drew) ?_
      have hht : ∀ W, KU w3 W → Holds W g 27 #[.string ck, .string cv, .int .i64 (p : Int), .int .i64 (s : Int)] := fun W hW => hW.holds HH3.out (by decide)
      refine tk_val (some 37) rfl rfl rfl (.slice p3 m3 c3) (fun _ => by go_simp) ?_
      go_frame
      refine tk_val (some 38) rfl rfl rfl (.pointer (some ⟨g, 1, none⟩)) (fun _ => by go_simp) ?_
      go_frame
      refine tk_ld (some 39) rfl rfl rfl _ _ rfl rfl (fun W hW => ldStrH (hht W hW) rfl) ?_
      go_frame
      refine tk_val (some 40) rfl rfl rfl (.int .i64 (vs : Nat)) (fun _ => by go_simp) ?_
      go_frame
      refine tk_val (some 43) rfl rfl rfl (.pointer (some ⟨g, 1, none⟩)) (fun _ => by go_simp) ?_
      go_frame
      refine tk_ld (some 44) rfl rfl rfl _ _ rfl rfl (fun W hW => ldStrH (hht W hW) rfl) ?_
      go_frame
      refine tk_nil ?_
      obtain ⟨W5, g5, hW5, hg5, hB5, hh5⟩ := box_ints w3.drew [0, vs]
      have hC5 : KU w3 W5 := (KU.below (Below.refl _ _).drew).trans (KU.below hB5)
      have hD5 : Below base w3 W5 := below_drewL (hB5.mono (show base ≤ w3.drew.heap.size from HK.out.2.2.1))
      refine op_val (some 41) rfl rfl rfl (v := .slice (some ⟨g5, 0, none⟩) 2 2) (w' := W5) (by unfold intCells at hW5; go_simp; exact hW5) ?_
      refine ⟨hC5, ?_⟩
      go_frame
      have hown5 : OwnB W5 base (.slice p3 m3 c3) l3 := OwnB.below0 (w := w3.drew) HK.out.1 hB5
      have hbs5 := Nat.le_trans HK.out.2.2.1 hC5.size
      have hn5 := numbers_any hown5 hbs5 (by have := HK.out.2.2.2.1; omega) (z := 1) (by omega) hh5 (fun x hx => mem2 (by omega) (by omega) hx) (by simp)
      rw [numsB_two] at hn5
      refine op_call (some 42) rfl rfl rfl (f := 32) (vs := #[.slice p3 m3 c3, .int .i64 ((1 : Nat) : Int), .slice (some ⟨g5, 0, none⟩) 2 2]) (by go_simp) ?_
      refine hn5.mono ?_
      rintro e w6 ⟨v6, rfl, hown6, hC6, hD6⟩
      have hC56 := hC5.trans hC6
      refine ⟨_, rfl, hC56, ?_⟩
      go_frame
      have hL6 : (l3 ++ (beB 1 0 ++ beB 1 vs)).length + cv.size ≤ 1000000000 := by
        have := HK.out.2.2.2.1
        simp only [List.length_append, beB_len]
        omega
      refine op_append_txt (some 45) rfl rfl rfl _ _ rfl rfl rfl hown6 hL6 (Nat.le_trans HK.out.2.2.1 hC56.size) ?_
      intro v7 w7 hown7 hC7 hD7
      refine ⟨hC56.trans hC7, ?_⟩
      go_frame
      obtain ⟨p7, c7, rfl⟩ := hown7.shape
      obtain ⟨m7, hm7⟩ : ∃ m7, (l3 ++ (beB 1 0 ++ beB 1 vs) ++ cv.data.toList).length = m7 := ⟨_, rfl⟩
      rw [hm7] at hown7 ⊢
      refine op_val (some 6) rfl rfl rfl (v := .slice p7 m7 c7) (w' := w7) (by go_simp) ?_
      refine ⟨hC56.trans hC7, ?_⟩
      go_frame
      have HF : Hid (OwnB w7 base (.slice p7 m7 c7) (l ++ R) ∧ Below base w w7) := by
        refine ⟨?_, HK.out.2.1.trans (hD5.trans (hD6.trans hD7))⟩
        have e : l ++ R = l3 ++ (beB 1 0 ++ beB 1 vs) ++ cv.data.toList := by
          rw [← HR.out, HK.out.2.2.2.2, HVS.out]
          simp [HP.out]
        rw [e]
        exact hown7
      clear hown7 hC7 hD7 hown6 hC6 hD6
      refine then_normalE ?_
      go_at_K
      go_wp2_with fail
      go_ret
      exact ⟨_, rfl, HF.out⟩
    · have hpn : ((p : Int) != 0) = true := by simpa using hp
      have HP : Hid (¬ p = 0) := hp
      clear hp y0 y1
      go_wp2_with fail
      have hht : ∀ W, KU w3 W → Holds W g 27 #[.string ck, .string cv, .int .i64 (p : Int), .int .i64 (s : Int)] := fun W hW => hW.holds HH3.out (by decide)
      have HEnd : ∀ (a : List UInt8) (q : Nat) (v6 : Value) (w6 : World), True → True := fun _ _ _ _ _ => trivial
      clear HEnd
      refine wp_region_tree (fun W => KU w3 W) [0, 3, 4, 5, 6] (.two 1 (.two 2 (.one 7 (.one 8 (.one 9 .nil))) 7 (.one 2 (.one 8 (.one 9 .nil)))) 7 (.one 1 (.one 2 (.one 8 (.one 9 .nil))))) mixedP (by kernel_rfl) rfl (by kernel_rfl) (fun _ _ _ d _ h => by cases d <;> exact h) (KU.below (Below.refl _ _).drew) ?_
      refine tk_val (some 28) rfl rfl rfl (.slice p3 m3 c3) (fun _ => by go_simp) ?_
      go_frame
      refine tk_val (some 31) rfl rfl rfl (.pointer (some ⟨g, 2, none⟩)) (fun _ => by go_simp) ?_
      go_frame
      refine tk_ld (some 32) rfl rfl rfl _ _ rfl rfl (fun W hW => ldIntH (hht W hW) rfl) ?_
      go_frame
      refine tk_val (some 33) rfl rfl rfl (.pointer (some ⟨g, 3, none⟩)) (fun _ => by go_simp) ?_
      go_frame
      refine tk_ld (some 34) rfl rfl rfl _ _ rfl rfl (fun W hW => ldIntH (hht W hW) rfl) ?_
      go_frame
      refine tk_nil ?_
      refine ⟨?_, ?_⟩
      · obtain ⟨X0, hX0, hWX0, hgX0, hBX0, hhX0⟩ := box_ints w3.drew [1]
        have hCX0 : KU w3 X0 := (KU.below (Below.refl _ _).drew).trans (KU.below hBX0)
        have hDX0 : Below base w3 X0 := below_drewL (hBX0.mono (show base ≤ w3.drew.heap.size from HK.out.2.2.1))
        have hoX0 : OwnB X0 base (.slice p3 m3 c3) l3 := OwnB.below0 (w := w3.drew) HK.out.1 hBX0
        refine op_val (some 29) rfl rfl rfl (v := .slice (some ⟨hX0, 0, none⟩) 1 1) (w' := X0) (by unfold intCells at hWX0; go_simp; exact hWX0) ?_
        refine ⟨hCX0, ?_⟩
        go_frame
        have hS0 := KU.below hBX0
        refine ⟨?_, ?_⟩
        · have hnX1 := numbers_any hoX0 (Nat.le_trans HK.out.2.2.1 hCX0.size) (by have := HK.out.2.2.2.1; omega) (z := 1) (by omega) (xs := [1]) hhX0 (fun x hx => by rw [List.mem_singleton.1 hx]; omega) (by simp)
          rw [numsB_one] at hnX1
          refine op_call (some 30) rfl rfl rfl (f := 32) (vs := #[.slice p3 m3 c3, .int .i64 ((1 : Nat) : Int), .slice (some ⟨hX0, 0, none⟩) 1 1]) (by go_simp) ?_
          refine hnX1.mono ?_
          rintro e X1 ⟨v_kind, rfl, hoX1, hS1, hTX1⟩
          have hCX1 := hCX0.trans hS1
          have hDX1 := hDX0.trans hTX1
          refine ⟨_, rfl, hCX1, ?_⟩
          go_frame
          obtain ⟨X2, hX2, hWX2, hgX2, hBX2, hhX2⟩ := box_ints X1 [p, s]
          have hCX2 : KU w3 X2 := hCX1.trans (KU.below hBX2)
          have hDX2 : Below base w3 X2 := hDX1.trans (hBX2.mono (Nat.le_trans HK.out.2.2.1 hCX1.size))
          have hoX2 := hoX1.below0 hBX2
          refine op_val (some 35) rfl rfl rfl (v := .slice (some ⟨hX2, 0, none⟩) 2 2) (w' := X2) (by unfold intCells at hWX2; go_simp; exact hWX2) ?_
          refine ⟨hCX2, ?_⟩
          go_frame
          have hS2 := KU.below hBX2
          have hnX3 := numbers_any hoX2 (Nat.le_trans HK.out.2.2.1 hCX2.size) (by have := HK.out.2.2.2.1; simp only [List.length_append, beB_len]; omega) (z := 4) (by omega) (xs := [p, s]) hhX2 (fun x hx => mem2 (by omega) (by omega) hx) (by simp)
          rw [numsB_two] at hnX3
          refine op_call (some 36) rfl rfl rfl (f := 32) (vs := #[v_kind, .int .i64 ((4 : Nat) : Int), .slice (some ⟨hX2, 0, none⟩) 2 2]) (by go_simp) ?_
          refine hnX3.mono ?_
          rintro e X3 ⟨v_end, rfl, hoX3, hS3, hTX3⟩
          have hCX3 := hCX2.trans hS3
          have hDX3 := hDX2.trans hTX3
          refine ⟨_, rfl, hCX3, ?_⟩
          go_frame
          obtain ⟨p9, c9, rfl⟩ := hoX3.shape
          obtain ⟨m9, hm9⟩ : ∃ m9, (l3 ++ beB 1 1 ++ (beB 4 p ++ beB 4 s)).length = m9 := ⟨_, rfl⟩
          rw [hm9] at hoX3 ⊢
          refine op_val (some 6) rfl rfl rfl (v := .slice p9 m9 c9) (w' := X3) (by go_simp) ?_
          refine ⟨hCX3, ?_⟩
          go_frame
          have HF : Hid (OwnB X3 base (.slice p9 m9 c9) (l ++ R) ∧ Below base w X3) := by
            refine ⟨?_, HK.out.2.1.trans hDX3⟩
            have e : l ++ R = l3 ++ beB 1 1 ++ (beB 4 p ++ beB 4 s) := by
              have hp0 := HP.out
              rw [← HR.out, HK.out.2.2.2.2]
              simp [hp0]
            rw [e]
            exact hoX3
          refine then_normalE ?_
          go_at_K
          go_wp2_with fail
          go_ret
          exact ⟨_, rfl, HF.out⟩
        · obtain ⟨X1, hX1, hWX1, hgX1, hBX1, hhX1⟩ := box_ints X0 [p, s]
          have hCX1 : KU w3 X1 := hCX0.trans (KU.below hBX1)
          have hDX1 : Below base w3 X1 := hDX0.trans (hBX1.mono (Nat.le_trans HK.out.2.2.1 hCX0.size))
          have hoX1 := hoX0.below0 hBX1
          refine op_val (some 35) rfl rfl rfl (v := .slice (some ⟨hX1, 0, none⟩) 2 2) (w' := X1) (by unfold intCells at hWX1; go_simp; exact hWX1) ?_
          refine ⟨hCX1, ?_⟩
          go_frame
          have hS1 := KU.below hBX1
          have hnX2 := numbers_any hoX1 (Nat.le_trans HK.out.2.2.1 hCX1.size) (by have := HK.out.2.2.2.1; omega) (z := 1) (by omega) (xs := [1]) (hS1.holds hhX0 (by decide)) (fun x hx => by rw [List.mem_singleton.1 hx]; omega) (by simp)
          rw [numsB_one] at hnX2
          refine op_call (some 30) rfl rfl rfl (f := 32) (vs := #[.slice p3 m3 c3, .int .i64 ((1 : Nat) : Int), .slice (some ⟨hX0, 0, none⟩) 1 1]) (by go_simp) ?_
          refine hnX2.mono ?_
          rintro e X2 ⟨v_kind, rfl, hoX2, hS2, hTX2⟩
          have hCX2 := hCX1.trans hS2
          have hDX2 := hDX1.trans hTX2
          refine ⟨_, rfl, hCX2, ?_⟩
          go_frame
          have hnX3 := numbers_any hoX2 (Nat.le_trans HK.out.2.2.1 hCX2.size) (by have := HK.out.2.2.2.1; simp only [List.length_append, beB_len]; omega) (z := 4) (by omega) (xs := [p, s]) (hS2.holds hhX1 (by decide)) (fun x hx => mem2 (by omega) (by omega) hx) (by simp)
          rw [numsB_two] at hnX3
          refine op_call (some 36) rfl rfl rfl (f := 32) (vs := #[v_kind, .int .i64 ((4 : Nat) : Int), .slice (some ⟨hX1, 0, none⟩) 2 2]) (by go_simp) ?_
          refine hnX3.mono ?_
          rintro e X3 ⟨v_end, rfl, hoX3, hS3, hTX3⟩
          have hCX3 := hCX2.trans hS3
          have hDX3 := hDX2.trans hTX3
          refine ⟨_, rfl, hCX3, ?_⟩
          go_frame
          obtain ⟨p9, c9, rfl⟩ := hoX3.shape
          obtain ⟨m9, hm9⟩ : ∃ m9, (l3 ++ beB 1 1 ++ (beB 4 p ++ beB 4 s)).length = m9 := ⟨_, rfl⟩
          rw [hm9] at hoX3 ⊢
          refine op_val (some 6) rfl rfl rfl (v := .slice p9 m9 c9) (w' := X3) (by go_simp) ?_
          refine ⟨hCX3, ?_⟩
          go_frame
          have HF : Hid (OwnB X3 base (.slice p9 m9 c9) (l ++ R) ∧ Below base w X3) := by
            refine ⟨?_, HK.out.2.1.trans hDX3⟩
            have e : l ++ R = l3 ++ beB 1 1 ++ (beB 4 p ++ beB 4 s) := by
              have hp0 := HP.out
              rw [← HR.out, HK.out.2.2.2.2]
              simp [hp0]
            rw [e]
            exact hoX3
          refine then_normalE ?_
          go_at_K
          go_wp2_with fail
          go_ret
          exact ⟨_, rfl, HF.out⟩
      · obtain ⟨X0, hX0, hWX0, hgX0, hBX0, hhX0⟩ := box_ints w3.drew [p, s]
        have hCX0 : KU w3 X0 := (KU.below (Below.refl _ _).drew).trans (KU.below hBX0)
        have hDX0 : Below base w3 X0 := below_drewL (hBX0.mono (show base ≤ w3.drew.heap.size from HK.out.2.2.1))
        have hoX0 : OwnB X0 base (.slice p3 m3 c3) l3 := OwnB.below0 (w := w3.drew) HK.out.1 hBX0
        refine op_val (some 35) rfl rfl rfl (v := .slice (some ⟨hX0, 0, none⟩) 2 2) (w' := X0) (by unfold intCells at hWX0; go_simp; exact hWX0) ?_
        refine ⟨hCX0, ?_⟩
        go_frame
        have hS0 := KU.below hBX0
        obtain ⟨X1, hX1, hWX1, hgX1, hBX1, hhX1⟩ := box_ints X0 [1]
        have hCX1 : KU w3 X1 := hCX0.trans (KU.below hBX1)
        have hDX1 : Below base w3 X1 := hDX0.trans (hBX1.mono (Nat.le_trans HK.out.2.2.1 hCX0.size))
        have hoX1 := hoX0.below0 hBX1
        refine op_val (some 29) rfl rfl rfl (v := .slice (some ⟨hX1, 0, none⟩) 1 1) (w' := X1) (by unfold intCells at hWX1; go_simp; exact hWX1) ?_
        refine ⟨hCX1, ?_⟩
        go_frame
        have hS1 := KU.below hBX1
        have hnX2 := numbers_any hoX1 (Nat.le_trans HK.out.2.2.1 hCX1.size) (by have := HK.out.2.2.2.1; omega) (z := 1) (by omega) (xs := [1]) hhX1 (fun x hx => by rw [List.mem_singleton.1 hx]; omega) (by simp)
        rw [numsB_one] at hnX2
        refine op_call (some 30) rfl rfl rfl (f := 32) (vs := #[.slice p3 m3 c3, .int .i64 ((1 : Nat) : Int), .slice (some ⟨hX1, 0, none⟩) 1 1]) (by go_simp) ?_
        refine hnX2.mono ?_
        rintro e X2 ⟨v_kind, rfl, hoX2, hS2, hTX2⟩
        have hCX2 := hCX1.trans hS2
        have hDX2 := hDX1.trans hTX2
        refine ⟨_, rfl, hCX2, ?_⟩
        go_frame
        have hnX3 := numbers_any hoX2 (Nat.le_trans HK.out.2.2.1 hCX2.size) (by have := HK.out.2.2.2.1; simp only [List.length_append, beB_len]; omega) (z := 4) (by omega) (xs := [p, s]) (hS2.holds (hS1.holds hhX0 (by decide)) (by decide)) (fun x hx => mem2 (by omega) (by omega) hx) (by simp)
        rw [numsB_two] at hnX3
        refine op_call (some 36) rfl rfl rfl (f := 32) (vs := #[v_kind, .int .i64 ((4 : Nat) : Int), .slice (some ⟨hX0, 0, none⟩) 2 2]) (by go_simp) ?_
        refine hnX3.mono ?_
        rintro e X3 ⟨v_end, rfl, hoX3, hS3, hTX3⟩
        have hCX3 := hCX2.trans hS3
        have hDX3 := hDX2.trans hTX3
        refine ⟨_, rfl, hCX3, ?_⟩
        go_frame
        obtain ⟨p9, c9, rfl⟩ := hoX3.shape
        obtain ⟨m9, hm9⟩ : ∃ m9, (l3 ++ beB 1 1 ++ (beB 4 p ++ beB 4 s)).length = m9 := ⟨_, rfl⟩
        rw [hm9] at hoX3 ⊢
        refine op_val (some 6) rfl rfl rfl (v := .slice p9 m9 c9) (w' := X3) (by go_simp) ?_
        refine ⟨hCX3, ?_⟩
        go_frame
        have HF : Hid (OwnB X3 base (.slice p9 m9 c9) (l ++ R) ∧ Below base w X3) := by
          refine ⟨?_, HK.out.2.1.trans hDX3⟩
          have e : l ++ R = l3 ++ beB 1 1 ++ (beB 4 p ++ beB 4 s) := by
            have hp0 := HP.out
            rw [← HR.out, HK.out.2.2.2.2]
            simp [hp0]
          rw [e]
          exact hoX3
        refine then_normalE ?_
        go_at_K
        go_wp2_with fail
        go_ret
        exact ⟨_, rfl, HF.out⟩
end Go.Proofs.Ytdgfjaidnedaiaa
