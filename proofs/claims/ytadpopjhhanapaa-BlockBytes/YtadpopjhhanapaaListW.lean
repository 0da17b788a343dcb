/-
  What List does.
-/
import Derived.Test.YtadpopjhhanapaaHeadW
namespace Go.Proofs.Ytadpopjhhanapaa
open Go Go.RowKit

def cat (xs : List ByteArray) : List UInt8 := (xs.map (·.data.toList)).flatten
theorem join_cat : ∀ (xs : List ByteArray), Lib.join (xs.map (·.data.toList)) [] = cat xs
  | [] => rfl
  | [x] => by simp [Lib.join, cat]
  | x :: y :: r => by
    have h := join_cat (y :: r)
    simp only [cat, List.map_cons, List.flatten_cons] at h ⊢
    rw [← h]
    simp [Lib.join]

set_option maxRecDepth 4000 in
theorem list_any (bk o c : Nat) (xs : List ByteArray) (w : World) (hcells : ∀ (j : Nat) x, xs[j]? = some x → w.cell? ⟨bk, o + j, none⟩ = some (.string x)) (hbk : bk < w.heap.size) (hN : xs.length ≤ 100000) (hcap : xs.length ≤ c) (hlen : (cat xs).length ≤ 100000000) :
    Calls Try.prog 35 #[.slice (some ⟨bk, o, none⟩) xs.length c] w fun e w' => e = .returned (.string ⟨(listL (cat xs)).toArray⟩) ∧ Below w.heap.size w w' := by
  obtain ⟨C, hC⟩ : ∃ C, C = cat xs := ⟨_, rfl⟩
  have hjoin := Try.strings_Join bk o c xs ⟨#[]⟩ w hcells hbk (by omega) hcap (by show (Lib.join _ []).length ≤ _; rw [join_cat]; omega)
  have hse : (⟨#[]⟩ : ByteArray).data.toList = [] := rfl
  rw [hse, join_cat, ← hC] at hjoin
  rw [← hC] at hlen ⊢
  obtain ⟨H, hH⟩ : ∃ H, H = hd 192 C.length := ⟨_, rfl⟩
  have hl : H.length ≤ 9 := hH ▸ hd_len _ _
  have hsz : (⟨H.toArray⟩ : ByteArray).size = H.length := rfl
  have hCs : (⟨C.toArray⟩ : ByteArray).size = C.length := rfl
  have hap := strApp ⟨C.toArray⟩ H
  rw [show (⟨C.toArray⟩ : ByteArray).data.toList = C from rfl] at hap
  have hr : listL C = H ++ C := by unfold listL; rw [hH]
  have HJ : Hid (Calls Try.prog 56 #[.slice (some ⟨bk, o, none⟩) xs.length c, .string ⟨#[]⟩] w fun e w' => e = .returned (.string ⟨C.toArray⟩) ∧ Below w.heap.size w w') := hjoin
  have HH : Hid (H = hd 192 C.length) := hH
  have HR : Hid (listL C = H ++ C) := hr
  clear hjoin hH hcells hC hr
  go_enter Try.func35, Try.ntmps35
  go_wp2_with (first
    | (go_at_call 56; refine HJ.out.mono ?_; rintro e w1 ⟨rfl, hB1⟩)
    | (go_at_call 57; refine (head_any 192 C.length _ (.inr rfl) (by omega)).mono ?_; rintro e w2 ⟨rfl, hB⟩; rw [← HH.out])
    | fail)
  go_ret
  exact ⟨by rw [HR.out]; rfl, hB1.trans (hB.mono hB1.size)⟩

set_option maxRecDepth 4000 in
theorem list_none (a : Option Addr) (c : Nat) (w : World) :
    Calls Try.prog 35 #[.slice a 0 c] w fun e w' => e = .returned (.string ⟨#[192]⟩) ∧ Below w.heap.size w w' := by
  have hh : hd 192 0 = [192] := rfl
  go_enter Try.func35, Try.ntmps35
  go_wp2_with (first
    | (go_at_call 56; refine (Try.strings_Join_none a c ⟨#[]⟩ w).mono ?_; rintro e w1 ⟨rfl, rfl⟩)
    | (go_at_call 57; refine (head_any 192 0 _ (.inr rfl) (by omega)).mono ?_; rintro e w2 ⟨rfl, hB⟩; rw [hh])
    | fail)
  go_ret
  exact ⟨rfl, hB⟩
end Go.Proofs.Ytadpopjhhanapaa
