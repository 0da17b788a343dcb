/-
  Parts of rows of pairs; parts of texts; having on any row.
-/
import Derived.Test.YtjdhdeffiigpbaaDoorTAlikeW
import Derived.RowKit3
namespace Go.Proofs.YtjdhdeffiigpbaaDoor
open Go Go.RowKit

theorem elemPairs : Tryd.prog.elem 30 = 33 := by kernel_rfl
theorem htPairs : Tryd.prog.underlying 30 = some (.slice (Tryd.prog.elem 30)) := by rw [elemPairs]; exact underPairs
theorem sizePairW (w : World) : (Go.sizeOf 33).run Tryd.prog w = .ok 2 w := by
  obtain ⟨i, h1, _, h3, _⟩ := infoPair
  simp [Go.sizeOf, typeInfo, h1, h3]
theorem PairsAt.cap {w : World} {p : Option Addr} {n c : Nat} {L : List Pr} (h : PairsAt w (.slice p n c) L) : n = L.length ∧ n ≤ c := by
  rcases h with ⟨rfl, q, c', e⟩ | ⟨b, o, c', e, h2, _⟩
  · injection e with _ e2 _
    subst e2
    exact ⟨rfl, Nat.zero_le _⟩
  · injection e with _ e2 e3
    subst e2 e3
    exact ⟨rfl, h2⟩
theorem pairs_sliced {W : World} {p : Option Addr} {n c : Nat} {L : List Pr} (h : PairsAt W (.slice p n c) L) {lo hi mx : Nat} (h1 : lo ≤ hi) (h2 : hi ≤ n) (h3 : hi ≤ mx) : PairsAt W (sliced p lo hi mx 2) ((L.drop lo).take (hi - lo)) := by
  obtain ⟨hn, _⟩ := h.cap
  unfold sliced
  have hl : ((L.drop lo).take (hi - lo)).length = hi - lo := by rw [List.length_take, List.length_drop]; omega
  by_cases he : lo = hi
  · refine .inl ⟨List.eq_nil_of_length_eq_zero (by omega), _, _, by rw [show hi - lo = 0 by omega]⟩
  · rcases h with ⟨rfl, q, c', e⟩ | ⟨b, o, c', e, _, h5⟩
    · simp at hn; omega
    · injection e with e1 e2 e3
      subst e1
      rw [if_neg (by omega)]
      refine .inr ⟨b, o + lo * 2, mx - lo, by rw [hl]; simp [Addr.add_mid], by omega, fun i x hx => ?_⟩
      have hil := (List.getElem?_eq_some_iff.1 hx).1
      rw [hl] at hil
      rw [List.getElem?_take, if_pos hil, List.getElem?_drop] at hx
      have := h5 (lo + i) x hx
      rw [show o + lo * 2 + i * 2 = o + (lo + i) * 2 by omega]
      exact this
theorem sl_part (p : Option Addr) {n c : Nat} (lo hi : Nat) (h1 : lo ≤ hi) (h2 : hi ≤ n) (hnc : n ≤ c) :
    ∃ p' c', (∀ w, (Instr.sliceAt 30 (.slice p n c) (some (.int .i64 (lo : Int))) (some (.int .i64 (hi : Int))) (some (.int .i64 (hi : Int)))).run Tryd.prog w = .ok (.slice p' (hi - lo) c') w) ∧ ∀ W L, PairsAt W (.slice p n c) L → PairsAt W (.slice p' (hi - lo) c') ((L.drop lo).take (hi - lo)) := by
  refine ⟨if hi = lo then p else p.map (·.add (lo * 2)), hi - lo, fun w => ?_, fun W L h => pairs_sliced h h1 h2 (Nat.le_refl hi)⟩
  rw [run_sliceAt_slice w _ _ _ _ _ htPairs, run_slice_lhm w _ _ _ _ htPairs .i64 .i64 .i64 (lo : Int) (hi : Int) (hi : Int) (by omega) (by omega) (by omega) (by omega), elemPairs, sizePairW]
  simp [sliced]
theorem sl_to (p : Option Addr) {n c : Nat} (hi : Nat) (h2 : hi ≤ n) (hnc : n ≤ c) :
    ∃ p' c', (∀ w, (Instr.sliceAt 30 (.slice p n c) none (some (.int .i64 (hi : Int))) none).run Tryd.prog w = .ok (.slice p' hi c') w) ∧ ∀ W L, PairsAt W (.slice p n c) L → PairsAt W (.slice p' hi c') (L.take hi) := by
  refine ⟨if c = 0 then p else p.map (·.add (0 * 2)), c, fun w => ?_, fun W L h => ?_⟩
  · rw [run_sliceAt_slice w _ _ _ _ _ htPairs, run_slice_h w _ _ _ _ htPairs .i64 (hi : Int) (by omega) (by omega), elemPairs, sizePairW]
    simp [sliced]
  · have := pairs_sliced h (lo := 0) (hi := hi) (mx := c) (Nat.zero_le _) h2 (by omega)
    simpa [sliced] using this
theorem sl_from (p : Option Addr) {n c : Nat} (lo : Nat) (h2 : lo ≤ n) (hnc : n ≤ c) :
    ∃ p' c', (∀ w, (Instr.sliceAt 30 (.slice p n c) (some (.int .i64 (lo : Int))) none none).run Tryd.prog w = .ok (.slice p' (n - lo) c') w) ∧ ∀ W L, PairsAt W (.slice p n c) L → PairsAt W (.slice p' (n - lo) c') (L.drop lo) := by
  refine ⟨if c = lo then p else p.map (·.add (lo * 2)), c - lo, fun w => ?_, fun W L h => ?_⟩
  · rw [run_sliceAt_slice w _ _ _ _ _ htPairs, run_slice_l w _ _ _ _ htPairs .i64 (lo : Int) (by omega) (by omega), elemPairs, sizePairW]
    simp [sliced]
  · have := pairs_sliced h (lo := lo) (hi := n) (mx := c) h2 (Nat.le_refl _) hnc
    have e : (L.drop lo).take (n - lo) = L.drop lo := List.take_of_length_le (by rw [List.length_drop, h.cap.1]; omega)
    rw [e] at this
    exact this
theorem slice_from (x : ByteArray) (p : Nat) (hp : p ≤ x.size) (w : World) : (Instr.sliceAt 9 (.string x) (some (.int .i64 (p : Int))) none none).run Tryd.prog w = .ok (.string (x.extract p x.size)) w := by
  have h1 : (p : Int) ≤ x.size := by omega
  go_simp
theorem slice_mid (x : ByteArray) (p q : Nat) (hp : p ≤ q) (hq : q ≤ x.size) (w : World) : (Instr.sliceAt 9 (.string x) (some (.int .i64 (p : Int))) (some (.int .i64 (q : Int))) none).run Tryd.prog w = .ok (.string (x.extract p q)) w := by
  have h1 : (p : Int) ≤ q := by omega
  have h2 : (q : Int) ≤ x.size := by omega
  go_simp
theorem extract_data (x : ByteArray) (p q : Nat) : (x.extract p q).data.toList = (x.data.toList.take q).drop p := by
  rw [Nb.extract_str]
  show (List.take (q - p) (List.drop p x.data.toList)) = _
  rw [List.drop_take]
theorem having_at (v : Value) (L : List Pr) (q n : Nat) (w : World) (h : PairsAt w v L) (hl : L.length ≤ 1000000) (hk : ∀ p ∈ L, q < p.1.size) :
    Calls Tryd.prog 40 #[v, .int .i64 (q : Nat), .int .u8 (n : Nat)] w fun e w' => e = .returned (.int .i64 ((L.takeWhile fun x => nibAt q x == n).length : Nat)) ∧ Below w.heap.size w w' := by
  rcases h with ⟨rfl, p, c, rfl⟩ | ⟨b, o, c, rfl, h2, h3⟩
  · go_enter Tryd.func40, Tryd.ntmps40
    go_wp2_with fail
    go_loopw [11] (fun z wr => z = .int .i64 0 ∧ wr = w) (fun _ _ => 0)
    case atStart => exact ⟨rfl, rfl⟩
    case round =>
      obtain ⟨rfl, rfl⟩ := hrel
      go_wp2_with fail
      go_ret
      exact ⟨rfl, Below.refl _ _⟩
  · exact having_any b o c L q n w h3 hl hk
end Go.Proofs.YtjdhdeffiigpbaaDoor
