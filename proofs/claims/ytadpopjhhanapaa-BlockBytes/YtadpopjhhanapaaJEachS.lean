/-
  each over texts, which makes texts.
-/
import Derived.Test.YtadpopjhhanapaaJPure
namespace Go.Proofs.Ytadpopjhhanapaa
open Go Go.RowKit

set_option maxRecDepth 8000 in
set_option maxHeartbeats 2000000 in
theorem eachS_any {w : World} {v : Value} {L : List ByteArray} (hv : StrsAt w v L) (hl : L.length ≤ 4000000000000) (out : ByteArray → ByteArray) (hf : ∀ x ∈ L, ∀ W, Below w.heap.size w W → Calls Try.prog 59 #[.string x] W fun e w' => e = .returned (.string (out x)) ∧ Below W.heap.size W w') :
    Calls Try.prog 58 #[v, .func (.func 59) #[] #[]] w fun e w' => ∃ v', e = .returned v' ∧ OwnS w' w.heap.size v' (L.map out) ∧ Below w.heap.size w w' := by
  obtain ⟨p, c, rfl⟩ := hv.shape
  obtain ⟨n, hn⟩ : ∃ n, L.length = n := ⟨_, rfl⟩
  have HN : Hid (L.length = n) := hn
  rw [hn] at hv hl ⊢
  clear hn
  have HF : Hid (∀ x ∈ L, ∀ W, Below w.heap.size w W → Calls Try.prog 59 #[.string x] W fun e w' => e = .returned (.string (out x)) ∧ Below W.heap.size W w') := hf
  clear hf
  have hni : (n : Int) ≤ 4000000000000 := by omega
  go_enter Try.func58, Try.ntmps58
  go_wp2_with fail
  go_loopw [5, 10] (fun x y wr => ∃ k : Nat, y = .int .i64 (k : Nat) ∧ k ≤ n ∧ OwnS wr w.heap.size x ((L.take k).map out) ∧ Below w.heap.size w wr) (fun _ y _ => n - (intOf y).toNat)
  case atStart => exact ⟨0, rfl, Nat.zero_le _, OwnS.nil _ _, Below.refl _ _⟩
  case round =>
    obtain ⟨k, rfl, hk, hx, hB⟩ := hrel
    have HX : Hid (OwnS wr w.heap.size _ ((L.take k).map out)) := hx
    clear hx
    by_cases hkn : k < n
    · have hki : (k : Int) < n := by omega
      obtain ⟨y, hy⟩ : ∃ y, L[k]? = some y := ⟨_, List.getElem?_eq_getElem (by have := HN.out; omega)⟩
      have HY : Hid ((L.take (k + 1)).map out = (L.take k).map out ++ [out y]) := by
        show _ = _
        rw [List.take_add_one, hy]; simp
      obtain ⟨b, o, rfl, hnn, d0⟩ := (hv.below hB).at hy
      clear hnn
      have hm := HF.out y (List.mem_of_getElem? hy)
      have HM : Hid (((L.take k).map out).length ≤ 4000000000000) := by show _ ≤ _; rw [List.length_map, List.length_take]; omega
      skip
      clear hv hy
      generalize out y = q at hm HY
      skip
      go_wp2_with (first
        | (go_at_call 59; refine (hm _ (below_new hB (Below.refl _ _))).mono ?_; rintro e w1 ⟨rfl, hB1⟩)
        | (have hB2 : Below wr.heap.size wr (World.alloc w1 (.cells #[.string q] 9)) := below_new hB1 (below_new1 _ _)
           refine wpList_append_s (base := w.heap.size) rfl _ _ rfl rfl rfl rfl (HX.out.below0 hB2) ((Holds.new w1 9 #[.string q]).cell 0) HM.out (Nat.le_trans hB.size hB2.size) ?_
           intro v' w2 hv2 hg2)
        | fail)
      have hB3 : Below w.heap.size w w2 := (below_new hB hB2).grown hg2 (Nat.le_trans hB.size hB2.size) HX.out.new
      exact ⟨⟨k + 1, by go_num, by omega, by rw [HY.out]; exact hv2, hB3⟩, by simp [intOf]; omega⟩
    · have hki : ¬ (k : Int) < n := by omega
      obtain rfl : k = n := by omega
      have HE : Hid (L.take k = L) := List.take_of_length_le (by have := HN.out; omega)
      go_wp2_with fail
      go_ret
      have := HX.out
      rw [HE.out] at this
      exact ⟨_, rfl, this, hB⟩
end Go.Proofs.Ytadpopjhhanapaa
