/-
  Writes, accounts and blocks among the arguments.
-/
import Derived.Test.YtadpopjhhanapaaJPure
import Derived.ProofKit
import Derived.LaidMore
import Derived.OpenShut
import Derived.ChangeOld
import Derived.RowKit3
namespace Go.Proofs.Ytadpopjhhanapaa
open Go Go.ChangeShapes Go.WideShapes Go.ChangeAt Go.RowKit

theorem list_ofJ {α : Type} {P : Nat → α → Prop} : ∀ n, (∀ j, j < n → ∃ t, P j t) → ∃ L : List α, L.length = n ∧ ∀ j t, L[j]? = some t → P j t
  | 0, _ => ⟨[], rfl, fun j t h => by simp at h⟩
  | n + 1, h => by
    obtain ⟨L, h1, h2⟩ := list_ofJ n (fun j hj => h j (by omega))
    obtain ⟨t, ht⟩ := h n (by omega)
    refine ⟨L ++ [t], by simp [h1], fun j u hu => ?_⟩
    by_cases hj : j < n
    · rw [List.getElem?_append_left (by omega)] at hu
      exact h2 j u hu
    · have hjn : j = n := by
        have := (List.getElem?_eq_some_iff.1 hu).1
        simp [h1] at this
        omega
      subst hjn
      rw [List.getElem?_append_right (by omega), h1, Nat.sub_self] at hu
      simp at hu
      rw [← hu]; exact ht
theorem cellsStrJ : Try.prog.cellsOf 9 = 1 := by kernel_rfl
theorem cellsU64J : Try.prog.cellsOf 35 = 1 := by kernel_rfl
theorem cellsIntJ : Try.prog.cellsOf 3 = 1 := by kernel_rfl
theorem cellsBoolJ : Try.prog.cellsOf 4 = 1 := by kernel_rfl
theorem cellsSlJ : Try.prog.cellsOf 36 = 1 := by kernel_rfl
theorem cellsWsJ : Try.prog.cellsOf 22 = 1 := by kernel_rfl
theorem cellsSlotJ : Try.prog.cellsOf 50 = 2 := by kernel_rfl
theorem cellsWrJ : Try.prog.cellsOf 38 = 7 := by kernel_rfl
theorem cellsBlkJ : Try.prog.cellsOf 24 = 2 := by kernel_rfl
theorem cellsAcctJ : Try.prog.cellsOf 40 = 4 := by kernel_rfl
theorem underStrA : Try.prog.underlying 9 = some .string := by kernel_rfl
theorem underBoolA : Try.prog.underlying 4 = some .bool := by kernel_rfl
theorem underU64A : Try.prog.underlying 35 = some (.int .u64) := by kernel_rfl
theorem underIntA : Try.prog.underlying 3 = some (.int .i64) := by kernel_rfl
theorem underSlsA : Try.prog.underlying 36 = some (.slice 50) := by kernel_rfl
theorem underWsA : Try.prog.underlying 22 = some (.slice 38) := by kernel_rfl
theorem add_plainJ (b o j : Nat) : (⟨b, o, none⟩ : Addr).add j = ⟨b, o + j, none⟩ := by unfold Addr.add; split <;> simp_all
theorem len2J {α : Type} : ∀ l : List α, l.length = 2 → ∃ a b, l = [a, b]
  | [a, b], _ => ⟨a, b, rfl⟩
  | [], h => by simp at h
  | [_], h => by simp at h
  | _ :: _ :: _ :: _, h => by simp at h
theorem len4J {α : Type} : ∀ l : List α, l.length = 4 → ∃ a b c d, l = [a, b, c, d]
  | [a, b, c, d], _ => ⟨a, b, c, d, rfl⟩
  | [], h => by simp at h
  | [_], h => by simp at h
  | [_, _], h => by simp at h
  | [_, _, _], h => by simp at h
  | _ :: _ :: _ :: _ :: _ :: _, h => by simp at h
theorem len7J {α : Type} : ∀ l : List α, l.length = 7 → ∃ a b c d e f g, l = [a, b, c, d, e, f, g]
  | [a, b, c, d, e, f, g], _ => ⟨a, b, c, d, e, f, g, rfl⟩
  | [], h => by simp at h
  | [_], h => by simp at h
  | [_, _], h => by simp at h
  | [_, _, _], h => by simp at h
  | [_, _, _, _], h => by simp at h
  | [_, _, _, _, _], h => by simp at h
  | [_, _, _, _, _, _], h => by simp at h
  | _ :: _ :: _ :: _ :: _ :: _ :: _ :: _ :: _, h => by simp at h
theorem addr_plainJ {w : World} {a : Addr} {v : Value} (h : w.cell? (a.add 0) = some v) : ∃ c o, a = ⟨c, o, none⟩ := by
  obtain ⟨c, o, sp⟩ := a
  cases sp with
  | none => exact ⟨c, o, rfl⟩
  | some s =>
    unfold Addr.add at h
    unfold World.cell? at h
    split at h <;> simp_all
section
variable {H : Type} {enc : TypeId × Value → H} {w : World}
set_option maxRecDepth 100000 in
theorem open_slotF (fuel : Nat) (cs : List Value) (x : DataW H × List MemPlace) (hf : DataW.trod enc Try.prog w 0 (fun _ => true) true fuel 50 cs = some x) : ∃ s : Sl, cs = [.string s.k, .string s.v] := by
  obtain ⟨xs, m, hm, _, hl, hlen, hel⟩ := DataW.trod_struct Try.underlying50 hf
  rw [cellsSlotJ] at hl
  have hx2 : xs.length = 2 := hlen
  have f0 : DataW.trod enc Try.prog w 0 (fun _ => true) true m 9 ((cs.drop 0).take (Try.prog.cellsOf 9)) = xs[0]? := hel 0 _ rfl
  have f1 : DataW.trod enc Try.prog w 0 (fun _ => true) true m 9 ((cs.drop 1).take (Try.prog.cellsOf 9)) = xs[1]? := hel 1 _ rfl
  rw [cellsStrJ, List.getElem?_eq_getElem (by omega)] at f0 f1
  obtain ⟨x0, x1, rfl⟩ := len2J cs hl
  clear hel hf
  simp only [List.drop_zero, List.take_succ_cons, List.take_zero, List.drop_succ_cons] at f0 f1
  obtain ⟨y0, e0, _⟩ := DataW.trod_string underStrA f0
  obtain ⟨y1, e1, _⟩ := DataW.trod_string underStrA f1
  injection e0 with e0 _
  injection e1 with e1 _
  exact ⟨⟨y0, y1⟩, by rw [e0, e1]⟩
set_option maxRecDepth 100000 in
theorem open_slotsF {v : Value} (fuel : Nat) (cs : List Value) (x : DataW H × List MemPlace) (hf : DataW.trod enc Try.prog w 0 (fun _ => true) true fuel 36 cs = some x) (hcs : cs = [v]) :
    ∃ L : List Sl, SlotsAt w v L ∧ L.length ≤ 9223372036854775807 := by
  subst hcs
  rcases DataW.trod_slice underSlsA hf with ⟨hc, _⟩ | ⟨a, len', cap', elems, rest, m, hm, hc, _, _, hlc, hcm, hel, hall, _, _⟩
  · have hc : v = .slice none 0 0 := by simpa using hc
    subst hc
    exact ⟨[], .inl ⟨rfl, none, 0, rfl⟩, by simp⟩
  · have hc : v = .slice (some a) len' cap' := by simpa using hc
    subst hc
    rw [cellsSlotJ] at hall
    have key : ∀ j, j < len' → ∃ s : Sl, ∀ i u, [Value.string s.k, .string s.v][i]? = some u → w.cell? ((a.add (j * 2)).add i) = some u := fun j hj => by
      have h1 := hall j hj
      rw [List.getElem?_eq_getElem (by omega)] at h1
      obtain ⟨cs2, h2, h3⟩ := Option.bind_eq_some_iff.1 h1
      obtain ⟨s, rfl⟩ := open_slotF m cs2 _ h3
      have hq := (World.cells?_some h2).2.2
      refine ⟨s, fun i u hu => ?_⟩
      have hi : i < 2 := (List.getElem?_eq_some_iff.1 hu).1
      rw [hq i hi]; exact hu
    obtain ⟨L, hL1, hL2⟩ := list_ofJ len' key
    refine ⟨L, ?_, by unfold maxLen at hcm; omega⟩
    by_cases h0 : len' = 0
    · subst h0
      exact .inl ⟨List.eq_nil_of_length_eq_zero hL1, _, _, rfl⟩
    · obtain ⟨bk, o, spot⟩ := a
      obtain ⟨s, hs⟩ := key 0 (by omega)
      have hspot : spot = none := by
        have h3 := hs 0 _ rfl
        simpa [Addr.add] using World.cell?_spot h3
      subst hspot
      refine .inr ⟨bk, o, cap', by rw [hL1], by omega, fun j t hj => ?_⟩
      have q := hL2 j t hj
      have q0 := q 0 _ rfl
      have q1 := q 1 _ rfl
      rw [add_plainJ, add_plainJ] at q0 q1
      exact ⟨q0, q1⟩
set_option maxRecDepth 100000 in
theorem open_writeF (fuel : Nat) (cs : List Value) (x : DataW H × List MemPlace) (hf : DataW.trod enc Try.prog w 0 (fun _ => true) true fuel 38 cs = some x) : ∃ s : Wr, cs = (wrC s).toList ∧ WrOk w s ∧ s.L.length ≤ 9223372036854775807 := by
  obtain ⟨xs, m, hm, _, hl, hlen, hel⟩ := DataW.trod_struct Try.underlying38 hf
  rw [cellsWrJ] at hl
  have hx7 : xs.length = 7 := hlen
  have f0 : DataW.trod enc Try.prog w 0 (fun _ => true) true m 9 ((cs.drop 0).take (Try.prog.cellsOf 9)) = xs[0]? := hel 0 _ rfl
  have f1 : DataW.trod enc Try.prog w 0 (fun _ => true) true m 4 ((cs.drop 1).take (Try.prog.cellsOf 4)) = xs[1]? := hel 1 _ rfl
  have f2 : DataW.trod enc Try.prog w 0 (fun _ => true) true m 4 ((cs.drop 2).take (Try.prog.cellsOf 4)) = xs[2]? := hel 2 _ rfl
  have f3 : DataW.trod enc Try.prog w 0 (fun _ => true) true m 35 ((cs.drop 3).take (Try.prog.cellsOf 35)) = xs[3]? := hel 3 _ rfl
  have f4 : DataW.trod enc Try.prog w 0 (fun _ => true) true m 9 ((cs.drop 4).take (Try.prog.cellsOf 9)) = xs[4]? := hel 4 _ rfl
  have f5 : DataW.trod enc Try.prog w 0 (fun _ => true) true m 9 ((cs.drop 5).take (Try.prog.cellsOf 9)) = xs[5]? := hel 5 _ rfl
  have f6 : DataW.trod enc Try.prog w 0 (fun _ => true) true m 36 ((cs.drop 6).take (Try.prog.cellsOf 36)) = xs[6]? := hel 6 _ rfl
  rw [cellsStrJ, List.getElem?_eq_getElem (by omega)] at f0 f4 f5
  rw [cellsBoolJ, List.getElem?_eq_getElem (by omega)] at f1 f2
  rw [cellsU64J, List.getElem?_eq_getElem (by omega)] at f3
  rw [cellsSlJ, List.getElem?_eq_getElem (by omega)] at f6
  obtain ⟨x0, x1, x2, x3, x4, x5, x6, rfl⟩ := len7J cs hl
  clear hel hf
  simp only [List.drop_zero, List.take_succ_cons, List.take_zero, List.drop_succ_cons] at f0 f1 f2 f3 f4 f5 f6
  obtain ⟨y0, e0, _⟩ := DataW.trod_string underStrA f0
  obtain ⟨y1, e1, _⟩ := DataW.trod_bool underBoolA f1
  obtain ⟨y2, e2, _⟩ := DataW.trod_bool underBoolA f2
  obtain ⟨y3, e3, _, w3⟩ := DataW.trod_int underU64A f3
  obtain ⟨y4, e4, _⟩ := DataW.trod_string underStrA f4
  obtain ⟨y5, e5, _⟩ := DataW.trod_string underStrA f5
  obtain ⟨L, hL, hn⟩ := open_slotsF m _ _ f6 rfl
  injection e0 with e0 _
  injection e1 with e1 _
  injection e2 with e2 _
  injection e3 with e3 _
  injection e4 with e4 _
  injection e5 with e5 _
  have g0 : 0 ≤ y3 ∧ y3 ≤ 18446744073709551615 := by simpa [Lit.wf, IntKind.min, IntKind.max, IntKind.signed, IntKind.bits] using w3
  obtain ⟨n, rfl⟩ := Int.eq_ofNat_of_zero_le g0.1
  refine ⟨⟨y0, y1, y2, n, y4, y5, x6, L⟩, ?_, ⟨hL, by show n < _; omega⟩, hn⟩
  rw [e0, e1, e2, e3, e4, e5]
  rfl
set_option maxRecDepth 100000 in
theorem open_writesF {v : Value} (fuel : Nat) (cs : List Value) (x : DataW H × List MemPlace) (hf : DataW.trod enc Try.prog w 0 (fun _ => true) true fuel 22 cs = some x) (hcs : cs = [v]) :
    ∃ L : List Wr, WritesAt w v L ∧ L.length ≤ 9223372036854775807 ∧ ∀ x ∈ L, x.L.length ≤ 9223372036854775807 := by
  subst hcs
  rcases DataW.trod_slice underWsA hf with ⟨hc, _⟩ | ⟨a, len', cap', elems, rest, m, hm, hc, _, _, hlc, hcm, hel, hall, _, _⟩
  · have hc : v = .slice none 0 0 := by simpa using hc
    subst hc
    exact ⟨[], WritesAt.nil _ _ _, by simp, by simp⟩
  · have hc : v = .slice (some a) len' cap' := by simpa using hc
    subst hc
    rw [cellsWrJ] at hall
    have key : ∀ j, j < len' → ∃ s : Wr, (∀ i u, (wrC s).toList[i]? = some u → w.cell? ((a.add (j * 7)).add i) = some u) ∧ WrOk w s ∧ s.L.length ≤ 9223372036854775807 := fun j hj => by
      have h1 := hall j hj
      rw [List.getElem?_eq_getElem (by omega)] at h1
      obtain ⟨cs2, h2, h3⟩ := Option.bind_eq_some_iff.1 h1
      obtain ⟨s, rfl, hs⟩ := open_writeF m cs2 _ h3
      have hq := (World.cells?_some h2).2.2
      refine ⟨s, fun i u hu => ?_, hs⟩
      have hi : i < 7 := (List.getElem?_eq_some_iff.1 hu).1
      rw [hq i hi]; exact hu
    obtain ⟨L, hL1, hL2⟩ := list_ofJ len' key
    have hL3 : ∀ x ∈ L, WrOk w x ∧ x.L.length ≤ 9223372036854775807 := fun x hx => by
      obtain ⟨j, hj⟩ := List.getElem?_of_mem hx
      exact (hL2 j x hj).2
    refine ⟨L, ⟨fun x hx => (hL3 x hx).1, ?_⟩, by unfold maxLen at hcm; omega, fun x hx => (hL3 x hx).2⟩
    by_cases h0 : len' = 0
    · subst h0
      exact .inl ⟨List.eq_nil_of_length_eq_zero hL1, _, _, rfl⟩
    · obtain ⟨bk, o, spot⟩ := a
      obtain ⟨s, hs, _⟩ := key 0 (by omega)
      have hspot : spot = none := by
        have h3 := hs 0 _ rfl
        simpa [Addr.add] using World.cell?_spot h3
      subst hspot
      refine .inr ⟨bk, o, cap', by rw [hL1], by omega, fun j t hj => ?_⟩
      have q := (hL2 j t hj).1
      have q0 := q 0 _ rfl
      have q1 := q 1 _ rfl
      have q2 := q 2 _ rfl
      have q3 := q 3 _ rfl
      have q4 := q 4 _ rfl
      have q5 := q 5 _ rfl
      have q6 := q 6 _ rfl
      rw [add_plainJ, add_plainJ] at q0 q1 q2 q3 q4 q5 q6
      exact ⟨q0, q1, q2, q3, q4, q5, q6⟩
variable {b0 : Nat} {r : Reach} {v : Value} {d : DataW H} {p : List MemPlace}
set_option maxRecDepth 100000 in
theorem open_write (hv : Value.okWide Try.prog w r b0 38 v) (h : DataW.Trod enc Try.prog w 0 (fun _ => true) true 38 v d p) : ∃ x : Wr, v = wra x ∧ WrOk w x ∧ x.L.length ≤ 9223372036854775807 := by
  simp only [Value.okWide, Try.underlying38] at hv
  obtain ⟨cs, rfl, hsz, _⟩ := hv
  obtain ⟨fuel, hf⟩ := h
  obtain ⟨x, h1, h2⟩ := open_writeF fuel _ _ hf
  refine ⟨x, ?_, h2⟩
  have hcs : (Value.agg cs).cells.toList = cs.toList := rfl
  rw [hcs] at h1
  unfold wra
  rw [Array.toList_inj.1 h1]
set_option maxRecDepth 100000 in
theorem open_block (hv : Value.okWide Try.prog w r b0 24 v) (h : DataW.Trod enc Try.prog w 0 (fun _ => true) true 24 v d p) : ∃ (n : Int) (u : Value) (L : List Wr), v = .agg #[.int .i64 n, u] ∧ WritesAt w u L ∧ L.length ≤ 9223372036854775807 ∧ (∀ x ∈ L, x.L.length ≤ 9223372036854775807) ∧ -9223372036854775808 ≤ n ∧ n ≤ 9223372036854775807 := by
  simp only [Value.okWide, Try.underlying24] at hv
  obtain ⟨cs, rfl, hsz, _⟩ := hv
  obtain ⟨fuel, hf⟩ := h
  obtain ⟨xs, m, hm, _, hl, hlen, hel⟩ := DataW.trod_struct Try.underlying24 hf
  rw [cellsBlkJ] at hl
  have hx2 : xs.length = 2 := hlen
  have f0 : DataW.trod enc Try.prog w 0 (fun _ => true) true m 3 (((Value.agg cs).cells.toList.drop 0).take (Try.prog.cellsOf 3)) = xs[0]? := hel 0 _ rfl
  have f1 : DataW.trod enc Try.prog w 0 (fun _ => true) true m 22 (((Value.agg cs).cells.toList.drop 1).take (Try.prog.cellsOf 22)) = xs[1]? := hel 1 _ rfl
  rw [cellsIntJ, List.getElem?_eq_getElem (by omega)] at f0
  rw [cellsWsJ, List.getElem?_eq_getElem (by omega)] at f1
  have hcs : (Value.agg cs).cells.toList = cs.toList := rfl
  rw [hcs] at f0 f1 hl
  obtain ⟨l⟩ := cs
  obtain ⟨x0, x1, rfl⟩ := len2J l (by simpa using hl)
  clear hel hf hsz
  simp only [List.drop_zero, List.take_succ_cons, List.take_zero, List.drop_succ_cons] at f0 f1
  obtain ⟨y0, e0, _, w0⟩ := DataW.trod_int underIntA f0
  obtain ⟨L, hL, h1, h2⟩ := open_writesF m _ _ f1 rfl
  injection e0 with e0 _
  have g0 : -9223372036854775808 ≤ y0 ∧ y0 ≤ 9223372036854775807 := by simpa [Lit.wf, IntKind.min, IntKind.max, IntKind.signed, IntKind.bits] using w0
  exact ⟨y0, x1, L, by rw [e0], hL, h1, h2, g0.1, g0.2⟩
set_option maxRecDepth 100000 in
theorem open_acct (hv : Value.okWide Try.prog w r b0 40 v) (h : DataW.Trod enc Try.prog w 0 (fun _ => true) true 40 v d p) : ∃ (n : Nat) (b c : ByteArray) (z : Int), v = .agg (acct n b c z) ∧ n < 18446744073709551616 ∧ -9223372036854775808 ≤ z ∧ z ≤ 9223372036854775807 := by
  simp only [Value.okWide, Try.underlying40] at hv
  obtain ⟨cs, rfl, hsz, _⟩ := hv
  obtain ⟨fuel, hf⟩ := h
  obtain ⟨xs, m, hm, _, hl, hlen, hel⟩ := DataW.trod_struct Try.underlying40 hf
  rw [cellsAcctJ] at hl
  have hx4 : xs.length = 4 := hlen
  have f0 : DataW.trod enc Try.prog w 0 (fun _ => true) true m 35 (((Value.agg cs).cells.toList.drop 0).take (Try.prog.cellsOf 35)) = xs[0]? := hel 0 _ rfl
  have f1 : DataW.trod enc Try.prog w 0 (fun _ => true) true m 9 (((Value.agg cs).cells.toList.drop 1).take (Try.prog.cellsOf 9)) = xs[1]? := hel 1 _ rfl
  have f2 : DataW.trod enc Try.prog w 0 (fun _ => true) true m 9 (((Value.agg cs).cells.toList.drop 2).take (Try.prog.cellsOf 9)) = xs[2]? := hel 2 _ rfl
  have f3 : DataW.trod enc Try.prog w 0 (fun _ => true) true m 3 (((Value.agg cs).cells.toList.drop 3).take (Try.prog.cellsOf 3)) = xs[3]? := hel 3 _ rfl
  rw [cellsU64J, List.getElem?_eq_getElem (by omega)] at f0
  rw [cellsStrJ, List.getElem?_eq_getElem (by omega)] at f1 f2
  rw [cellsIntJ, List.getElem?_eq_getElem (by omega)] at f3
  have hcs : (Value.agg cs).cells.toList = cs.toList := rfl
  rw [hcs] at f0 f1 f2 f3 hl
  obtain ⟨l⟩ := cs
  obtain ⟨x0, x1, x2, x3, rfl⟩ := len4J l (by simpa using hl)
  clear hel hf hsz
  simp only [List.drop_zero, List.take_succ_cons, List.take_zero, List.drop_succ_cons] at f0 f1 f2 f3
  obtain ⟨y0, e0, _, w0⟩ := DataW.trod_int underU64A f0
  obtain ⟨y1, e1, _⟩ := DataW.trod_string underStrA f1
  obtain ⟨y2, e2, _⟩ := DataW.trod_string underStrA f2
  obtain ⟨y3, e3, _, w3⟩ := DataW.trod_int underIntA f3
  injection e0 with e0 _
  injection e1 with e1 _
  injection e2 with e2 _
  injection e3 with e3 _
  have g0 : 0 ≤ y0 ∧ y0 ≤ 18446744073709551615 := by simpa [Lit.wf, IntKind.min, IntKind.max, IntKind.signed, IntKind.bits] using w0
  have g3 : -9223372036854775808 ≤ y3 ∧ y3 ≤ 9223372036854775807 := by simpa [Lit.wf, IntKind.min, IntKind.max, IntKind.signed, IntKind.bits] using w3
  obtain ⟨n, rfl⟩ := Int.eq_ofNat_of_zero_le g0.1
  refine ⟨n, y1, y2, y3, ?_, by omega, g3.1, g3.2⟩
  rw [e0, e1, e2, e3]
  rfl
end
end Go.Proofs.Ytadpopjhhanapaa
