/-
  What the calls of Check, list and Record do.
-/
import Derived.Test.YtamijfdhaahalaaDoorSNumW
import Derived.Test.YtamijfdhaahalaaDoorCTail
namespace Go.Proofs.YtamijfdhaahalaaDoor
open Go Go.RowKit

/-- An account as a value. -/
def acct (n : Nat) (b c : ByteArray) (z : Int) : Array Value := #[.int .u64 n, .string b, .string c, .int .i64 z]
/-- May it be? -/
def okA (b c : List UInt8) (z : Int) : Bool := rightN b && (decide (c.length = 0) || decide (c.length = 32)) && (decide (0 ≤ z) && decide (z ≤ 2147483647))
def chkE (b c : List UInt8) (z : Int) : Int := if okA b c z = true then 0 else 1

set_option maxRecDepth 4000 in
set_option maxHeartbeats 2000000 in
theorem check_any (n : Nat) (b c : ByteArray) (z : Int) (w : World) :
    Calls Tryd.prog 28 #[.agg (acct n b c z)] w fun e w' => e = .returned (.int .i64 (chkE b.data.toList c.data.toList z)) ∧ Below w.heap.size w w' := by
  have HB : Hid (∀ o, Below w.heap.size w (w.alloc o)) := fun o => (Below.refl _ _).alloc (Nat.le_refl _) _
  obtain ⟨E, hE⟩ : ∃ E, chkE b.data.toList c.data.toList z = E := ⟨_, rfl⟩
  rw [hE]
  unfold chkE okA at hE
  rw [sizeB] at hE
  unfold acct
  obtain ⟨r, hr⟩ : ∃ r, rightN b.data.toList = r := ⟨_, rfl⟩
  have k0 : decide (c.size = 0) = ((c.size : Int) == 0) := by rw [Bool.eq_iff_iff]; simp only [decide_eq_true_eq, beq_iff_eq]; omega
  have k1 : decide (c.size = 32) = ((c.size : Int) == 32) := by rw [Bool.eq_iff_iff]; simp only [decide_eq_true_eq, beq_iff_eq]; omega
  rw [hr, k0, k1] at hE
  clear k0 k1
  have HE : Hid ((if (r && (((c.size : Int) == 0) || ((c.size : Int) == 32)) && (decide (0 ≤ z) && decide (z ≤ 2147483647))) = true then (0 : Int) else 1) = E) := hE
  clear hE
  have hcode : (((c.size : Int) == 0) = true ∧ ((c.size : Int) == 32) = false) ∨ (((c.size : Int) == 0) = false ∧ ((c.size : Int) == 32) = true) ∨ (((c.size : Int) == 0) = false ∧ ((c.size : Int) == 32) = false) := by
    simp only [beq_iff_eq, beq_eq_false_iff_ne]; omega
  rcases hcode with ⟨c1, c2⟩ | ⟨c1, c2⟩ | ⟨c1, c2⟩ <;>
  rcases (by omega : ¬ 0 ≤ z ∨ (0 ≤ z ∧ z ≤ 2147483647) ∨ (0 ≤ z ∧ ¬ z ≤ 2147483647)) with z1 | ⟨z1, z2⟩ | ⟨z1, z2⟩ <;>
  cases r <;>
  (have H1 : Hid (((c.size : Int) == 0) = _) := c1
   have H2 : Hid (((c.size : Int) == 32) = _) := c2
   go_enter Tryd.func28, Tryd.ntmps28
   go_wp2_with (first
     | (go_at_call 18; refine (sright_any b _).mono ?_; rintro e w1 ⟨rfl, hw1⟩; rw [hr, hw1]; clear hw1)
     | fail)
   go_ret
   refine ⟨?_, HB.out _⟩
   rw [← HE.out, H1.out, H2.out]
   simp only [*, decide_true, Bool.true_and, Bool.false_and, Bool.and_false, Bool.or_true, Bool.or_false, Bool.and_true, if_true, if_false, Bool.false_eq_true]
   first | done | rfl | (rw [decide_eq_false (show ¬ 0 ≤ z by omega)]; rfl) | (rw [decide_eq_false (show ¬ z ≤ 2147483647 by omega)]; rfl))

/-- Texts as bytes, written one behind the other. -/
def bytesS (x : ByteArray) : ByteArray := ⟨(bytesL x.data.toList).toArray⟩
def rowS (xs : List ByteArray) : List UInt8 := cat (xs.map bytesS)
theorem bytesL_len (l : List UInt8) : (bytesL l).length ≤ l.length + 9 := by
  unfold bytesL
  split
  · omega
  · have := hd_len 128 l.length; rw [List.length_append]; omega
theorem rowS_len (M : Nat) : ∀ xs : List ByteArray, (∀ x ∈ xs, x.size ≤ M) → (rowS xs).length ≤ xs.length * (M + 9)
  | [], _ => by simp [rowS, cat]
  | x :: xs, h => by
    have h1 := rowS_len M xs (fun y hy => h y (List.mem_cons_of_mem _ hy))
    have h2 := bytesL_len x.data.toList
    have h3 := h x (List.mem_cons_self ..)
    rw [sizeB] at h2
    unfold rowS cat at *
    simp only [List.map_cons, List.flatten_cons, List.length_append, List.length_cons, Nat.add_mul, Nat.one_mul]
    show (bytesL x.data.toList).length + _ ≤ _
    omega
theorem underStrings : Tryd.prog.underlying 91 = some (.slice 9) := by kernel_rfl
theorem infoString : (Tryd.prog.info? 9).map (fun i => (i.zero, i.size, i.bytes)) = some (some (.string ⟨#[]⟩), 1, 16) := by kernel_rfl
/-- What stands in the row that is made. -/
def wrF (xs : List ByteArray) (i j : Nat) : Value := if j < i then .string (bytesS (xs.getD j ⟨#[]⟩)) else .string ⟨#[]⟩

set_option maxRecDepth 4000 in
theorem slist_any (bk c : Nat) (xs : List ByteArray) (w : World) (hcells : ∀ (j : Nat) x, xs[j]? = some x → w.cell? ⟨bk, j, none⟩ = some (.string x)) (hbk : bk < w.heap.size) (h1 : 1 ≤ xs.length) (hN : xs.length ≤ 1000) (hcap : xs.length ≤ c) (hlen : ∀ x ∈ xs, x.size ≤ 10000) :
    Calls Tryd.prog 38 #[.slice (some ⟨bk, 0, none⟩) xs.length c] w fun e w' => e = .returned (.string ⟨(listL (rowS xs)).toArray⟩) ∧ Below w.heap.size w w' := by
  obtain ⟨n, hn⟩ : ∃ n, n = xs.length := ⟨_, rfl⟩
  have hmk := run_make_row' (P := Tryd.prog) 91 9 (.string ⟨#[]⟩) 16 underStrings infoString rfl .i64 .i64 n (by omega) (by omega)
  rw [← hn] at h1 hN hcap ⊢
  have HN : Hid (n = xs.length) := hn
  have HC : Hid (∀ (j : Nat) x, xs[j]? = some x → w.cell? ⟨bk, j, none⟩ = some (.string x)) := hcells
  have HL : Hid (∀ x ∈ xs, x.size ≤ 10000) := hlen
  clear hn hcells hlen
  go_enter Tryd.func38, Tryd.ntmps38
  go_wp2_with fail
  obtain ⟨b, hb⟩ : ∃ b, b = w.heap.size := ⟨_, rfl⟩
  rw [← hb]
  have HB : Hid (b = w.heap.size) := hb
  clear hb hmk
  go_loopw [11] (fun z wr => ∃ i : Nat, i ≤ n ∧ z = .int .i64 i ∧ Below w.heap.size w wr ∧ wr.rowIs b 9 n (wrF xs i)) (fun z _ => n - (intOf z).toNat)
  case atStart => exact ⟨0, by omega, rfl, (Below.refl _ _).alloc (Nat.le_refl _) _, by rw [HB.out]; exact (World.rowIs_made w _ n _).congr fun i hi => by unfold wrF; rw [if_neg (by omega)]⟩
  case round =>
    obtain ⟨i, hi, rfl, hB, hr⟩ := hrel
    by_cases hlt : i < n
    · have hii : (i : Int) < n := by omega
      have hi0 : (0 : Int) ≤ i := by omega
      have hix : i < xs.length := by have := HN.out; omega
      obtain ⟨x, hx⟩ : ∃ x, xs[i]? = some x := ⟨xs[i], List.getElem?_eq_getElem hix⟩
      have hc1 : wr.cell? ⟨bk, i, none⟩ = some (.string x) := by rw [hB.cell (p := ⟨bk, i, none⟩) (by show bk < _; omega)]; exact HC.out i x hx
      have hxs : x.size ≤ 10000 := HL.out x (List.mem_of_getElem? hx)
      have HX : Hid (xs[i]? = some x) := hx
      have HR : Hid (wr.rowIs b 9 n (wrF xs i)) := hr
      clear hr hx
      go_wp2_with fail
      refine (bytes_any x _ (by omega)).mono ?_
      rintro e w1 ⟨rfl, hB1⟩
      have hr1 : w1.rowIs b 9 n (wrF xs i) := HR.out.of_block (hB1.block b HR.out.lt)
      have hc2 := hr1.cell (i := i) hlt
      have hf2 := hr1.frozen i
      have hB2 : Below w.heap.size w w1 := hB.trans (hB1.mono hB.size)
      have HR1 : Hid (w1.rowIs b 9 n (wrF xs i)) := hr1
      clear hr1 hc1
      go_wp2_with fail
      go_roundw
      case rel =>
        refine ⟨i + 1, by omega, rfl, hB2.setCell (by have := HB.out; show _ ≤ b; omega) _, ?_⟩
        refine (HR1.out.set i _).congr fun j hj => ?_
        unfold wrF
        by_cases e : j = i
        · subst e
          rw [if_pos rfl, if_pos (by omega), List.getD_eq_getElem?_getD, HX.out]
          rfl
        · rw [if_neg e]
          by_cases q : j < i
          · rw [if_pos q, if_pos (by omega)]
          · rw [if_neg q, if_neg (by omega)]
      case measure => simp [intOf]; omega
    · have hii : ¬ (i : Int) < n := by omega
      have hik : i = n := by omega
      subst hik
      have hq := HN.out
      have hl := list_any b 0 i (xs.map bytesS) wr (fun j y hy => by
        rw [List.getElem?_map] at hy
        cases hz : xs[j]? with
        | none => rw [hz] at hy; cases hy
        | some x =>
          rw [hz] at hy
          have hj : j < i := by rw [hq]; exact (List.getElem?_eq_some_iff.1 hz).1
          have := hr.cell (i := j) hj
          unfold wrF at this
          rw [if_pos hj, List.getD_eq_getElem?_getD, hz] at this
          rw [Nat.zero_add, this]
          obtain rfl := Option.some.inj hy
          rfl) hr.lt (by rw [List.length_map]; omega) (by rw [List.length_map]; omega) (by
            have := rowS_len 10000 xs HL.out
            unfold rowS at this
            have : xs.length * (10000 + 9) ≤ 1000 * 10009 := Nat.mul_le_mul (by omega) (by omega)
            omega)
      rw [List.length_map, ← hq] at hl
      have HLI : Hid (Calls Tryd.prog 66 #[.slice (some ⟨b, 0, none⟩) i i] wr fun e w' => e = .returned (.string ⟨(listL (cat (xs.map bytesS))).toArray⟩) ∧ Below wr.heap.size wr w') := hl
      clear hl hr hq
      go_wp2_with fail
      refine HLI.out.mono ?_
      rintro e w1 ⟨rfl, hB1⟩
      go_wp2_with fail
      go_ret
      exact ⟨rfl, hB.trans (hB1.mono hB.size)⟩
end Go.Proofs.YtamijfdhaahalaaDoor
