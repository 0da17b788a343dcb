/-
  The document's reader: take, number; four; rows of bytes as texts.
-/
import Derived.Test.YtdgfjaidnedaiaaEQRdP
namespace Go.Proofs.Ytdgfjaidnedaiaa
open Go Go.RowKit Go.Lib

/-- The document's reader in memory. -/
def RdAt (w : World) (g : Nat) (s : PS) : Prop := Holds w g 62 #[.string (txt s.1), .bool (!s.2)]
set_option maxRecDepth 8000 in
theorem qtake_any {w : World} {g : Nat} {s : PS} (h : RdAt w g s) (n : Nat) (hs : s.1.length ≤ 1000000) :
    Calls Try.prog 41 #[.pointer (some ⟨g, 0, none⟩), .int .i64 (n : Nat)] w fun e w' => e = .returned (.string (txt (takeQ n s).1)) ∧ RdAt w' g (takeQ n s).2 ∧ Only g w w' ∧ w'.heap.size = w.heap.size := by
  obtain ⟨r, ok⟩ := s
  unfold RdAt at *
  dsimp only at h hs
  have c1 : w.cell? ⟨g, 0, none⟩ = some (.string (txt r)) := h.cell 0
  have c2 : w.cell? ⟨g, 1, none⟩ = some (.bool (!ok)) := h.cell 1
  have f1 := h.frozen 0
  have f2 := h.frozen 1
  have hsz : ((txt r).size : Int) = (r.length : Int) := by rw [txt_size]
  unfold takeQ
  dsimp only
  by_cases hle : n ≤ r.length
  · rw [if_pos hle]
    have hl1 := slTo r n hle
    have hl2 := slFrom r n hle
    have hni : ¬ ((txt r).size : Int) < (n : Int) := by rw [hsz]; omega
    have HH : Hid (Holds (w.setCell ⟨g, 0, none⟩ (.string (txt (r.drop n)))) g 62 #[.string (txt (r.drop n)), .bool (!ok)] ∧ Only g w (w.setCell ⟨g, 0, none⟩ (.string (txt (r.drop n)))) ∧ (w.setCell ⟨g, 0, none⟩ (.string (txt (r.drop n)))).heap.size = w.heap.size) := ⟨h.set 0 _, (Only.refl _ _).set 0 _, by simp⟩
    clear h hsz
    go_enter Try.func41, Try.ntmps41
    go_wp2_with fail
    go_ret
    exact ⟨rfl, HH.out⟩
  · rw [if_neg hle]
    have hni : ((txt r).size : Int) < (n : Int) := by rw [hsz]; omega
    have HH : Hid (Holds (w.setCell ⟨g, 1, none⟩ (.bool true)) g 62 #[.string (txt r), .bool true] ∧ Only g w (w.setCell ⟨g, 1, none⟩ (.bool true)) ∧ (w.setCell ⟨g, 1, none⟩ (.bool true)).heap.size = w.heap.size) := ⟨h.set 1 _, (Only.refl _ _).set 1 _, by simp⟩
    clear h hsz
    go_enter Try.func41, Try.ntmps41
    go_wp2_with fail
    go_ret
    exact ⟨rfl, HH.out⟩
set_option maxRecDepth 8000 in
theorem qnumber_any {w : World} {g : Nat} {s : PS} (h : RdAt w g s) (n : Nat) (hn : n ≤ 4) (hs : s.1.length ≤ 1000000) :
    Calls Try.prog 40 #[.pointer (some ⟨g, 0, none⟩), .int .i64 (n : Nat)] w fun e w' => e = .returned (.int .i64 ((numQ n s).1 : Nat)) ∧ RdAt w' g (numQ n s).2 ∧ Only g w w' ∧ w'.heap.size = w.heap.size := by
  have ht := qtake_any h n hs
  unfold numQ
  have hlt := (takeQ_len n s).2.2
  dsimp only
  generalize (takeQ n s).2 = s2 at ht ⊢
  generalize (takeQ n s).1 = l at ht hlt ⊢
  clear h hs
  obtain ⟨m, hm⟩ : ∃ m, l.length = m := ⟨_, rfl⟩
  have HM : Hid (l.length = m) := hm
  have hsz : (txt l).size = m := by rw [txt_size]; exact hm
  have hm4 : m ≤ 4 := by omega
  clear hm
  go_enter Try.func40, Try.ntmps40
  go_wp2_with fail
  refine ht.mono ?_
  rintro e w1 ⟨rfl, hR1, hT1⟩
  have HF : Hid (RdAt w1 g s2 ∧ Only g w w1 ∧ w1.heap.size = w.heap.size) := ⟨hR1, hT1⟩
  clear hR1 hT1 ht
  go_wp2_with fail
  go_loopw [6, 7] (fun nv zv wr => ∃ k : Nat, k ≤ m ∧ zv = .int .i64 (k : Nat) ∧ nv = .int .i64 (beVal (l.take k) : Nat) ∧ wr = w1) (fun _ zv _ => m - (intOf zv).toNat)
  case atStart => exact ⟨0, Nat.zero_le _, rfl, rfl, rfl⟩
  case round =>
    obtain ⟨k, hk, rfl, hn1, rfl⟩ := hrel
    obtain ⟨x, hx⟩ : ∃ x, x = beVal (l.take k) := ⟨_, rfl⟩
    rw [← hx] at hn1
    have HX : Hid (x = beVal (l.take k)) := hx
    subst hn1
    by_cases hlt : k < m
    · have hki : (k : Int) < m := by omega
      have hx2 : x < 16777216 := by
        have h1 := beVal_lt (l.take k)
        have h3 : (l.take k).length ≤ 3 := by rw [List.length_take]; omega
        have h2 : 256 ^ (l.take k).length ≤ 256 ^ 3 := Nat.pow_le_pow_right (by omega) h3
        rw [hx]
        exact Nat.lt_of_lt_of_le h1 h2
      obtain ⟨y, hy⟩ : ∃ y, l[k]? = some y := ⟨_, List.getElem?_eq_getElem (by have := HM.out; omega)⟩
      have hkS : k < (txt l).size := by omega
      have hby : (txt l)[k] = y := by
        have h1 := (List.getElem?_eq_some_iff.1 hy).2
        rw [← h1]
        rfl
      have hyl := y.toNat_lt
      have HY : Hid (beVal (l.take (k + 1)) = x * 256 + y.toNat) := by show _ = _; rw [beVal_snoc l k y hy, hx]
      have hxi : (x : Int) < 16777216 := by omega
      have hyi : (y.toNat : Int) < 256 := by omega
      clear hx hy
      go_wp2_with fail
      refine ⟨⟨k + 1, by omega, by go_num, ?_, trivial⟩, by simp [intOf]; omega⟩
      rw [HY.out]
      simp
    · have hki : ¬ (k : Int) < m := by omega
      have HE : Hid (beVal l = x) := by
        show _ = _
        rw [hx, List.take_of_length_le (by have := HM.out; omega)]
      clear hx
      go_wp2_with fail
      go_ret
      rw [HE.out]
      exact ⟨rfl, HF.out⟩
/-- A row of bytes that is built, as a text. -/
theorem box_bytes (w : World) (l : List UInt8) : ∃ W g, w.alloc (.cells (l.map u8v).toArray 5) = W ∧ w.heap.size = g ∧ Below w.heap.size w W ∧ (convert 52 9 (.slice (some ⟨g, 0, none⟩) l.length l.length)).run Try.prog W = .ok (.string (txt l)) W := by
  have h := Holds.new w 5 (l.map u8v).toArray
  refine ⟨_, _, rfl, rfl, below_new1 _ _, ?_⟩
  exact run_convert_bytes_back (P := Try.prog) _ 52 9 5 ⟨w.heap.size, 0, none⟩ l.length l underBytes (by kernel_rfl) (by kernel_rfl) (fun j hj => by
    rw [add_plainE, Nat.zero_add, h.cell j]
    simp [u8v, hj])
theorem byte_at (x : Nat) (d : Nat) : ((x : Int) / 2 ^ (8 * d)) % 256 = ((UInt8.ofNat (x / 256 ^ d)).toNat : Nat) := be_byte x d
theorem beB_four (x : Nat) : beB 4 x = [UInt8.ofNat (x / 256 ^ 3), UInt8.ofNat (x / 256 ^ 2), UInt8.ofNat (x / 256 ^ 1), UInt8.ofNat (x / 256 ^ 0)] := rfl
set_option maxRecDepth 8000 in
theorem four_any (x : Nat) (hx : x < 2147483648) (w : World) : Calls Try.prog 34 #[.int .i64 (x : Nat)] w fun e w' => e = .returned (.string (txt (beB 4 x))) ∧ Below w.heap.size w w' := by
  have h3 := byte_at x 3
  have h2 := byte_at x 2
  have h1 := byte_at x 1
  have h0 := byte_at x 0
  obtain ⟨W, g, hW, hg, hB, hcv⟩ := box_bytes w [UInt8.ofNat (x / 256 ^ 3), UInt8.ofNat (x / 256 ^ 2), UInt8.ofNat (x / 256 ^ 1), UInt8.ofNat (x / 256 ^ 0)]
  rw [beB_four]
  generalize UInt8.ofNat (x / 256 ^ 3) = b3 at *
  generalize UInt8.ofNat (x / 256 ^ 2) = b2 at *
  generalize UInt8.ofNat (x / 256 ^ 1) = b1 at *
  generalize UInt8.ofNat (x / 256 ^ 0) = b0 at *
  generalize txt [b3, b2, b1, b0] = T at *
  replace hW : w.alloc (.cells #[.int .u8 (b3.toNat : Nat), .int .u8 (b2.toNat : Nat), .int .u8 (b1.toNat : Nat), .int .u8 (b0.toNat : Nat)] 5) = W := hW
  simp only [List.length_cons, List.length_nil, Nat.zero_add, Nat.reduceAdd] at hcv
  simp at h3 h2 h1 h0
  replace h3 : (x : Int) / 16777216 = (b3.toNat : Nat) := by omega
  have hxi : (x : Int) < 2147483648 := by omega
  have HB : Hid (Below w.heap.size w W) := hB
  clear hB
  go_enter Try.func34, Try.ntmps34
  go_wp2_with fail
  go_ret
  exact ⟨rfl, HB.out⟩
end Go.Proofs.Ytdgfjaidnedaiaa
