/-
  The program's numbers.
-/
import Derived.Test.YtdgfjaidnedaiaaEBytesM
namespace Go.Proofs.Ytdgfjaidnedaiaa
open Go Go.RowKit Go.Lib

theorem be_byte (x d : Nat) : (x : Int) / 2 ^ (8 * d) % 256 = ((UInt8.ofNat (x / 256 ^ d)).toNat : Nat) := by
  rw [UInt8.toNat_ofNat', show (256 : Nat) ^ d = 2 ^ (8 * d) by rw [Nat.pow_mul]]
  simp
def numsB (z : Nat) (xs : List Nat) : List UInt8 := xs.flatMap (beB z)
theorem numsB_take {z : Nat} {xs : List Nat} {k x : Nat} (h : xs[k]? = some x) : numsB z (xs.take (k + 1)) = numsB z (xs.take k) ++ beB z x := by
  unfold numsB
  rw [List.take_add_one, h, List.flatMap_append]
  simp
theorem numsB_len (z : Nat) : ∀ xs : List Nat, (numsB z xs).length = xs.length * z
  | [] => by simp [numsB]
  | a :: l => by
    have := numsB_len z l
    unfold numsB at *
    rw [List.flatMap_cons, List.length_append, this, beB_len, List.length_cons, Nat.add_mul]
    omega
def intCells (xs : List Nat) : Array Value := (xs.map fun x : Nat => Value.int .i64 (x : Nat)).toArray
set_option maxRecDepth 8000 in
set_option maxHeartbeats 1000000 in
theorem numbers_any {w : World} {base : Nat} {v : Value} {l : List UInt8} (hown : OwnB w base v l) (hbase : base ≤ w.heap.size) (hl : l.length ≤ 100000000) {z : Nat} (hz : z ≤ 4) {q : Nat} {xs : List Nat} (hq : Holds w q 3 (intCells xs)) (hx : ∀ x ∈ xs, x < 2147483648) (hxl : xs.length ≤ 4) :
    Calls Try.prog 32 #[v, .int .i64 (z : Nat), .slice (some ⟨q, 0, none⟩) xs.length xs.length] w fun e w' => ∃ v', e = .returned v' ∧ OwnB w' base v' (l ++ numsB z xs) ∧ KU w w' ∧ Below base w w' := by
  obtain ⟨m, hm⟩ : ∃ m, xs.length = m := ⟨_, rfl⟩
  have HM : Hid (xs.length = m) := hm
  rw [hm] at hxl ⊢
  have hmi : (m : Int) ≤ 4 := by omega
  have hzi : (z : Int) ≤ 4 := by omega
  have HO : Hid (OwnB w base v l) := hown
  have HQ : Hid (Holds w q 3 (intCells xs)) := hq
  clear hown hm hq
  go_enter Try.func32, Try.ntmps32
  go_wp2_with fail
  go_loopw [0, 12] (fun b y wr => ∃ k : Nat, y = .int .i64 (k : Nat) ∧ k ≤ m ∧ OwnB wr base b (l ++ numsB z (xs.take k)) ∧ KU w wr ∧ Below base w wr) (fun _ y _ => m - (intOf y).toNat)
  case atStart => exact ⟨0, rfl, Nat.zero_le _, by simpa [numsB] using HO.out, KU.refl _, Below.refl _ _⟩
  case round =>
    obtain ⟨k, rfl, hk, hob, hku, hB⟩ := hrel
    by_cases hkm : k < m
    · have hki : (k : Int) < m := by omega
      obtain ⟨x, hxk⟩ : ∃ x, xs[k]? = some x := ⟨_, List.getElem?_eq_getElem (by have := HM.out; omega)⟩
      have hxs := hx x (List.mem_of_getElem? hxk)
      have hc : wr.cell? ⟨q, k, none⟩ = some (.int .i64 (x : Nat)) := by
        rw [(hku.holds HQ.out (by decide)).cell k]
        unfold intCells
        simp [hxk]
      have HT := numsB_take (z := z) hxk
      have HLb : Hid ((l ++ numsB z (xs.take k)).length ≤ 100001000) := by
        show _ ≤ _
        rw [List.length_append, numsB_len, List.length_take]
        have h1 : min k xs.length ≤ 4 := by omega
        have := Nat.mul_le_mul h1 hz
        omega
      have F : Hid (OwnB wr base u0 (l ++ numsB z (xs.take k)) ∧ KU w wr ∧ Below base w wr) := ⟨hob, hku, hB⟩
      clear hob hku hB
      generalize numsB z (xs.take k) = N0 at F HT HLb
      go_wp2_with fail
      rename World => wo
      go_loopw [0, 17] (fun b y wi => ∃ j : Nat, y = .int .i64 (j : Nat) ∧ j ≤ z ∧ OwnB wi base b (l ++ N0 ++ (beB z x).take j) ∧ KU w wi ∧ Below base w wi) (fun _ y _ => z - (intOf y).toNat)
      case atStart => exact ⟨0, rfl, Nat.zero_le _, by simpa using F.out.1, F.out.2⟩
      case round =>
        obtain ⟨j, rfl, hj, hob, hku, hB⟩ := hrel
        by_cases hjz : j < z
        · have hji : (j : Int) < z := by omega
          obtain ⟨d, hd⟩ : ∃ d, z - 1 - j = d := ⟨_, rfl⟩
          have hdi : (z : Int) - 1 - (j : Int) = (d : Int) := by omega
          have HBT := beB_take z x j hjz
          rw [hd] at HBT
          have hbb := be_byte x d
          obtain ⟨B, hBd⟩ : ∃ B, UInt8.ofNat (x / 256 ^ d) = B := ⟨_, rfl⟩
          rw [hBd] at hbb HBT
          clear hd hBd
          have hd3 : d ≤ 3 := by omega
          have HW : Hid (Below wr.heap.size wr (wr.alloc (.cells #[.int .u8 (B.toNat : Nat)] 5)) ∧ Holds (wr.alloc (.cells #[.int .u8 (B.toNat : Nat)] 5)) wr.heap.size 5 #[u8v B]) := ⟨below_new1 _ _, Holds.new _ _ _⟩
          have hszr := hku.size
          have HLj : Hid ((l ++ N0 ++ (beB z x).take j).length ≤ 1000000000) := by
            show _ ≤ _
            have := HLb.out
            rw [List.length_append, List.length_take, beB_len]
            omega
          have hoW := hob.below0 HW.out.1
          have hsW := HW.out.1.size
          have HK : Hid (KU w (wr.alloc (.cells #[.int .u8 (B.toNat : Nat)] 5)) ∧ Below base w (wr.alloc (.cells #[.int .u8 (B.toNat : Nat)] 5))) := ⟨hku.trans (KU.below HW.out.1), hB.trans (HW.out.1.mono (by omega))⟩
          go_wp2_with (at_builtin; refine wpList_append_u8 rfl _ _ rfl B rfl rfl hoW HW.out.2 HLj.out (by omega) ?_; intro v5 w5 hown5 hk5 hB5)
          have HF : Hid (OwnB w5 base v5 (l ++ N0 ++ (beB z x).take (j + 1)) ∧ KU w w5 ∧ Below base w w5) := ⟨by rw [HBT, ← List.append_assoc]; exact hown5, HK.out.1.trans hk5, HK.out.2.trans hB5⟩
          exact ⟨⟨j + 1, by go_num, by omega, HF.out⟩, by simp [intOf]; omega⟩
        · have hji : ¬ (j : Int) < z := by omega
          have HF : Hid (OwnB wr base u0 (l ++ numsB z (xs.take (k + 1))) ∧ KU w wr ∧ Below base w wr) := ⟨by
            rw [HT, ← List.append_assoc]
            rw [List.take_of_length_le (by rw [beB_len]; omega)] at hob
            exact hob, hku, hB⟩
          clear hob hku hB
          go_wp2_with fail
          exact ⟨⟨k + 1, by go_num, by omega, HF.out⟩, by simp [intOf]; omega⟩
    · have hki : ¬ (k : Int) < m := by omega
      have HF : Hid (OwnB wr base u0 (l ++ numsB z xs) ∧ KU w wr ∧ Below base w wr) := ⟨by
        rw [List.take_of_length_le (by have := HM.out; omega)] at hob
        exact hob, hku, hB⟩
      clear hob hku hB
      go_wp2_with fail
      go_ret
      exact ⟨_, rfl, HF.out⟩
end Go.Proofs.Ytdgfjaidnedaiaa
