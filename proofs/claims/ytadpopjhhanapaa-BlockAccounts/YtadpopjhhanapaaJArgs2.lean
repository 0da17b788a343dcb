/-
  A block among the arguments, with a bound on how many writes it has.
-/
import Derived.Test.YtadpopjhhanapaaJArgs
import Derived.HandedShaped
namespace Go.Proofs.Ytadpopjhhanapaa
open Go Go.ChangeShapes Go.WideShapes Go.ChangeAt Go.RowKit

theorem bytesWr : Try.prog.bytesOf 38 = 88 := by kernel_rfl
theorem fieldsBlk : ∃ f0 f1 : Field, Try.prog.underlying 24 = some (.struct #[f0, f1]) ∧ f0.type = 3 ∧ f0.offset = 0 ∧ f1.type = 22 ∧ f1.offset = 1 := ⟨_, _, Try.underlying24, rfl, rfl, rfl, rfl⟩
section
variable {H : Type} {enc : TypeId × Value → H} {w : World} {b0 : Nat} {r : Reach} {v : Value} {d : DataW H} {p : List MemPlace}
set_option maxRecDepth 100000 in
theorem open_blockZ (hv : Value.okWide Try.prog w r b0 24 v) (h : DataW.Trod enc Try.prog w 0 (fun _ => true) true 24 v d p) (hz : ∀ k ∈ d.weights Try.prog 24, k ≤ reachBytes) :
    ∃ (n : Int) (u : Value) (L : List Wr), v = .agg #[.int .i64 n, u] ∧ WritesAt w u L ∧ L.length ≤ 4000000000000 ∧ (∀ x ∈ L, x.L.length ≤ 9223372036854775807) ∧ -9223372036854775808 ≤ n ∧ n ≤ 9223372036854775807 := by
  simp only [Value.okWide, Try.underlying24] at hv
  obtain ⟨cs, rfl, hsz, _⟩ := hv
  obtain ⟨fuel, hf⟩ := h
  obtain ⟨g0, g1, hu, t0, o0, t1, o1⟩ := fieldsBlk
  obtain ⟨xs, m, hm, hx, hl, hlen, hel⟩ := DataW.trod_struct hu hf
  rw [cellsBlkJ] at hl
  have hx2 : xs.length = 2 := hlen
  obtain ⟨x0, x1, rfl⟩ := len2J xs hx2
  have f0 := hel 0 g0 rfl
  have f1 := hel 1 g1 rfl
  rw [t0, o0, cellsIntJ] at f0
  rw [t1, o1, cellsWsJ] at f1
  have hcs : (Value.agg cs).cells.toList = cs.toList := rfl
  rw [hcs] at f0 f1 hl
  obtain ⟨l⟩ := cs
  obtain ⟨y0, y1, rfl⟩ := len2J l (by simpa using hl)
  clear hel hf hsz
  simp only [List.drop_zero, List.take_succ_cons, List.take_zero, List.drop_succ_cons, List.getElem?_cons_zero, List.getElem?_cons_succ] at f0 f1
  obtain ⟨k0, e0, _, w0⟩ := DataW.trod_int underIntA f0
  obtain ⟨L, hL, h1, h2⟩ := open_writesF m _ _ f1 rfl
  injection e0 with e0 _
  have g0' : -9223372036854775808 ≤ k0 ∧ k0 ≤ 9223372036854775807 := by simpa [Lit.wf, IntKind.min, IntKind.max, IntKind.signed, IntKind.bits] using w0
  have hz1 : ∀ k ∈ x1.1.weights Try.prog 22, k ≤ reachBytes := fun k hk => hz k (by
    have hd : d = .agg [x0.1, x1.1] := by
      have := congrArg Prod.fst hx
      simpa using this
    rw [hd]
    simp only [DataW.weights, hu, List.map_cons, List.map_nil, t0, t1, DataW.weightsEach, List.append_nil]
    exact List.mem_append_right _ hk)
  have hlen2 : L.length ≤ 4000000000000 := by
    obtain ⟨pp, cc, hsh⟩ := hL.shape
    rcases DataW.trod_slice underWsA f1 with ⟨hc, _⟩ | ⟨a, len', cap', elems, rest, m', hm', hc, hx1, _, hlc, hcm, hel', _, _, _⟩
    · have hc : y1 = .slice none 0 0 := by simpa using hc
      rw [hc] at hsh
      injection hsh with _ e2 _
      omega
    · have hc : y1 = .slice (some a) len' cap' := by simpa using hc
      rw [hc] at hsh
      injection hsh with _ e2 _
      have hk := hz1 ((elems.length + rest.length) * 88) (by
        rw [hx1]
        simp only [DataW.weights, underWsA, List.length_map, bytesWr]
        exact List.mem_cons_self ..)
      have hr : reachBytes = 140737488351232 := by decide
      rw [hr] at hk
      omega
  exact ⟨k0, y1, L, by rw [e0], hL, hlen2, h2, g0'.1, g0'.2⟩
end
end Go.Proofs.Ytadpopjhhanapaa
