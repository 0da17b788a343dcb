/-
  A branch, and what a nibble has, among the arguments.
-/
import Derived.Test.YtbidoangdnmjfaaDoorMStrArg
namespace Go.Proofs.YtbidoangdnmjfaaDoor
open Go Go.ChangeShapes Go.WideShapes Go.ChangeAt Go.RowKit

theorem list_ofM {α : Type} {P : Nat → α → Prop} : ∀ n, (∀ j, j < n → ∃ t, P j t) → ∃ L : List α, L.length = n ∧ ∀ j t, L[j]? = some t → P j t
  | 0, _ => ⟨[], rfl, fun j t h => by simp at h⟩
  | n + 1, h => by
    obtain ⟨L, h1, h2⟩ := list_ofM n (fun j hj => h j (by omega))
    obtain ⟨t, ht⟩ := h n (by omega)
    refine ⟨L ++ [t], by simp [h1], fun j u hu => ?_⟩
    by_cases hj : j < n
    · rw [List.getElem?_append_left (by omega)] at hu
      exact h2 j u hu
    · have hjn : j = n := by
        have := (List.getElem?_eq_some_iff.1 hu).1
        simp [h1] at this
        omega
      subst hjn
      rw [List.getElem?_append_right (by omega), h1, Nat.sub_self] at hu
      simp at hu
      rw [← hu]; exact ht
theorem cellsSumM : Tryd.prog.cellsOf 43 = 32 := by kernel_rfl
theorem cellsHashesM : Tryd.prog.cellsOf 23 = 1 := by kernel_rfl
theorem cellsU16M : Tryd.prog.cellsOf 22 = 1 := by kernel_rfl
theorem cellsBoolM : Tryd.prog.cellsOf 4 = 1 := by kernel_rfl
theorem underBoolM : Tryd.prog.underlying 4 = some .bool := by kernel_rfl
theorem cellsBrM : Tryd.prog.cellsOf 25 = 4 := by kernel_rfl
theorem cellsPartM : Tryd.prog.cellsOf 41 = 2 := by kernel_rfl
set_option maxRecDepth 100000 in
theorem open_sumF {H : Type} {enc : TypeId × Value → H} {w : World} (fuel : Nat) (cs : List Value) (x : DataW H × List MemPlace) (hf : DataW.trod enc Tryd.prog w 0 (fun _ => true) true fuel 43 cs = some x) : ∃ c : H32, cs = hcl c := by
  obtain ⟨xs, m, rfl, _, hl, hn, hel⟩ := DataW.trod_array underSumM hf
  rw [cellsSumM] at hl
  have key : ∀ j, j < 32 → ∃ c : UInt8, cs[j]? = some (u8v c) := fun j hj => by
    have h0 := hel j hj
    rw [List.getElem?_eq_getElem (by omega), cellsU8M, Nat.mul_one] at h0
    obtain ⟨z, e1, _, hz⟩ := DataW.trod_int underU8M h0
    have g : 0 ≤ z ∧ z ≤ 255 := by simpa [Lit.wf, IntKind.min, IntKind.max, IntKind.signed, IntKind.bits] using hz
    refine ⟨UInt8.ofNat z.toNat, ?_⟩
    have e2 : ((cs.drop j).take 1)[0]? = some (.int .u8 z) := by rw [e1]; rfl
    rw [List.getElem?_take, if_pos (by omega), List.getElem?_drop, Nat.add_zero] at e2
    rw [e2]
    unfold u8v
    have e3 : (UInt8.ofNat z.toNat).toNat = z.toNat := by rw [UInt8.toNat_ofNat']; omega
    rw [e3]
    congr 2
    omega
  obtain ⟨L, hL1, hL2⟩ := list_ofM 32 key
  refine ⟨⟨L, hL1⟩, ?_⟩
  rw [hcl_u8v]
  refine List.ext_getElem? fun j => ?_
  by_cases hj : j < 32
  · have hx : L[j]? = some L[j] := List.getElem?_eq_getElem (by omega)
    rw [List.getElem?_map, hx, hL2 j _ hx]; rfl
  · rw [List.getElem?_eq_none (by omega), List.getElem?_eq_none (by rw [List.length_map]; show L.length ≤ j; omega)]
set_option maxRecDepth 100000 in
theorem open_hashesF {H : Type} {enc : TypeId × Value → H} {w : World} {v : Value} (fuel : Nat) (cs : List Value) (x : DataW H × List MemPlace) (hf : DataW.trod enc Tryd.prog w 0 (fun _ => true) true fuel 23 cs = some x) (hcs : cs = [v]) :
    ∃ L : List H32, HashesAt w v L ∧ L.length ≤ 9223372036854775807 := by
  subst hcs
  rcases DataW.trod_slice underHashes hf with ⟨hc, _⟩ | ⟨a, len', cap', elems, rest, m, hm, hc, _, _, hlc, hcm, hel, hall, _, _⟩
  · have hc : v = .slice none 0 0 := by simpa using hc
    subst hc
    exact ⟨[], .inl ⟨rfl, none, 0, rfl⟩, by simp⟩
  · have hc : v = .slice (some a) len' cap' := by simpa using hc
    subst hc
    rw [cellsSumM] at hall
    have key : ∀ j, j < len' → ∃ c : H32, ∀ i, i < 32 → w.cell? ((a.add (j * 32)).add i) = (hcl c)[i]? := fun j hj => by
      have h1 := hall j hj
      rw [List.getElem?_eq_getElem (by omega)] at h1
      obtain ⟨cs2, h2, h3⟩ := Option.bind_eq_some_iff.1 h1
      obtain ⟨c, rfl⟩ := open_sumF m cs2 _ h3
      have hq := (World.cells?_some h2).2.2
      refine ⟨c, fun i hi => ?_⟩
      exact hq i (by omega)
    obtain ⟨L, hL1, hL2⟩ := list_ofM len' key
    refine ⟨L, ?_, by unfold maxLen at hcm; omega⟩
    by_cases h0 : len' = 0
    · subst h0
      exact .inl ⟨List.eq_nil_of_length_eq_zero hL1, _, _, rfl⟩
    · obtain ⟨bk, o, spot⟩ := a
      obtain ⟨c, hc⟩ := key 0 (by omega)
      have hspot : spot = none := by
        have h3 := hc 0 (by omega)
        obtain ⟨u, hu⟩ := hcl_get c (j := 0) (by omega)
        rw [hu] at h3
        simpa [Addr.add] using World.cell?_spot h3
      subst hspot
      refine .inr ⟨bk, o, cap', by rw [hL1], by omega, fun j t hj i hi => ?_⟩
      have q := hL2 j t hj i hi
      rw [Addr.add_mid, Addr.add_mid] at q
      exact q
theorem len4M {α : Type} : ∀ l : List α, l.length = 4 → ∃ a b c d, l = [a, b, c, d]
  | [a, b, c, d], _ => ⟨a, b, c, d, rfl⟩
  | [], h => by simp at h
  | [_], h => by simp at h
  | [_, _], h => by simp at h
  | [_, _, _], h => by simp at h
  | _ :: _ :: _ :: _ :: _ :: _, h => by simp at h
theorem len2M {α : Type} : ∀ l : List α, l.length = 2 → ∃ a b, l = [a, b]
  | [a, b], _ => ⟨a, b, rfl⟩
  | [], h => by simp at h
  | [_], h => by simp at h
  | _ :: _ :: _ :: _, h => by simp at h
set_option maxRecDepth 100000 in
theorem open_branchM {H : Type} {enc : TypeId × Value → H} {w : World} {b0 : Nat} {r : Reach} {v : Value} {d : DataW H} {p : List MemPlace}
    (hv : Value.okWide Tryd.prog w r b0 25 v) (h : DataW.Trod enc Tryd.prog w 0 (fun _ => true) true 25 v d p) :
    ∃ (s t m : Nat) (u : Value) (L : List H32), v = brV s t m u ∧ s < 65536 ∧ t < 65536 ∧ m < 65536 ∧ HashesAt w u L ∧ L.length ≤ 9223372036854775807 := by
  simp only [Value.okWide, Tryd.underlying25] at hv
  obtain ⟨cs, rfl, hsz, _⟩ := hv
  obtain ⟨fuel, hf⟩ := h
  obtain ⟨xs, m, hm, _, hl, hlen, hel⟩ := DataW.trod_struct Tryd.underlying25 hf
  rw [cellsBrM] at hl
  have hx4 : xs.length = 4 := hlen
  have f0 : DataW.trod enc Tryd.prog w 0 (fun _ => true) true m 22 (((Value.agg cs).cells.toList.drop 0).take (Tryd.prog.cellsOf 22)) = xs[0]? := hel 0 _ rfl
  have f1 : DataW.trod enc Tryd.prog w 0 (fun _ => true) true m 22 (((Value.agg cs).cells.toList.drop 1).take (Tryd.prog.cellsOf 22)) = xs[1]? := hel 1 _ rfl
  have f2 : DataW.trod enc Tryd.prog w 0 (fun _ => true) true m 22 (((Value.agg cs).cells.toList.drop 2).take (Tryd.prog.cellsOf 22)) = xs[2]? := hel 2 _ rfl
  have f3 : DataW.trod enc Tryd.prog w 0 (fun _ => true) true m 23 (((Value.agg cs).cells.toList.drop 3).take (Tryd.prog.cellsOf 23)) = xs[3]? := hel 3 _ rfl
  rw [cellsU16M, List.getElem?_eq_getElem (by omega)] at f0 f1 f2
  rw [cellsHashesM, List.getElem?_eq_getElem (by omega)] at f3
  have hcs : (Value.agg cs).cells.toList = cs.toList := rfl
  rw [hcs] at f0 f1 f2 f3 hl
  obtain ⟨l⟩ := cs
  have hll : l.length = 4 := by simpa using hl
  obtain ⟨x0, x1, x2, x3, rfl⟩ := len4M l hll
  clear hel hf hsz
  simp only [List.drop_zero, List.take_succ_cons, List.take_zero, List.drop_succ_cons] at f0 f1 f2 f3
  obtain ⟨y0, e0, _, z0⟩ := DataW.trod_int Tryd.underlying22 f0
  obtain ⟨y1, e1, _, z1⟩ := DataW.trod_int Tryd.underlying22 f1
  obtain ⟨y2, e2, _, z2⟩ := DataW.trod_int Tryd.underlying22 f2
  obtain ⟨L, hL, hn⟩ := open_hashesF m _ _ f3 rfl
  injection e0 with e0 _
  injection e1 with e1 _
  injection e2 with e2 _
  obtain ⟨s, rfl, hs⟩ := nat_u16 z0
  obtain ⟨t, rfl, ht⟩ := nat_u16 z1
  obtain ⟨q, rfl, hq⟩ := nat_u16 z2
  exact ⟨s, t, q, x3, L, by rw [e0, e1, e2]; rfl, hs, ht, hq, hL, hn⟩
set_option maxRecDepth 100000 in
theorem open_part {H : Type} {enc : TypeId × Value → H} {w : World} {b0 : Nat} {r : Reach} {v : Value} {d : DataW H} {p : List MemPlace}
    (hv : Value.okWide Tryd.prog w r b0 41 v) (h : DataW.Trod enc Tryd.prog w 0 (fun _ => true) true 41 v d p) :
    ∃ (tree : Bool) (ref : ByteArray), v = .agg #[.bool tree, .string ref] ∧ ref.size ≤ 9223372036854775807 := by
  simp only [Value.okWide, Tryd.underlying41] at hv
  obtain ⟨cs, rfl, hsz, _⟩ := hv
  obtain ⟨fuel, hf⟩ := h
  obtain ⟨xs, m, hm, _, hl, hlen, hel⟩ := DataW.trod_struct Tryd.underlying41 hf
  rw [cellsPartM] at hl
  have hx2 : xs.length = 2 := hlen
  have f0 : DataW.trod enc Tryd.prog w 0 (fun _ => true) true m 4 (((Value.agg cs).cells.toList.drop 0).take (Tryd.prog.cellsOf 4)) = xs[0]? := hel 0 _ rfl
  have f1 : DataW.trod enc Tryd.prog w 0 (fun _ => true) true m 9 (((Value.agg cs).cells.toList.drop 1).take (Tryd.prog.cellsOf 9)) = xs[1]? := hel 1 _ rfl
  rw [cellsBoolM, List.getElem?_eq_getElem (by omega)] at f0
  rw [cellsStrM, List.getElem?_eq_getElem (by omega)] at f1
  have hcs : (Value.agg cs).cells.toList = cs.toList := rfl
  rw [hcs] at f0 f1 hl
  obtain ⟨l⟩ := cs
  have hll : l.length = 2 := by simpa using hl
  obtain ⟨x0, x1, rfl⟩ := len2M l hll
  clear hel hf hsz
  simp only [List.drop_zero, List.take_succ_cons, List.take_zero, List.drop_succ_cons] at f0 f1
  obtain ⟨y0, e0, _⟩ := DataW.trod_bool underBoolM f0
  obtain ⟨y1, e1, _, h1⟩ := DataW.trod_string underStrM f1
  injection e0 with e0 _
  injection e1 with e1 _
  exact ⟨y0, y1, by rw [e0, e1], by unfold maxLen at h1; omega⟩
end Go.Proofs.YtbidoangdnmjfaaDoor
