/-
  RlpReads walked.
-/
import Derived.Test.YtikpmafmmjfioaaSameW
import Derived.Test.YtikpmafmmjfioaaAwake2
namespace Go.Proofs.Ytikpmafmmjfioaa
open Go Go.RowKit

def shapeI : Option Row → Bool × List UInt8 × Row × Int
  | some (.item b s i .nil) => (b, s, i, 0)
  | _ => (false, [], .nil, 10)
theorem itemAns_row {w w' : World} {o : Option Row} {e : Ending} {b : Bool} {s : List UInt8} {i : Row} {E : Int} (h : ItemAns w w' o e) (hs : shapeI o = (b, s, i, E)) :
    ∃ a c, e = .returned (.tuple #[.agg #[.bool b, .string ⟨s.toArray⟩, .slice a i.len c], .int .i64 E]) ∧ i.len ≤ 100000 ∧ Lies w' (fun k => w.heap.size ≤ k ∧ k < w'.heap.size) i a := by
  unfold ItemAns at h
  split at h
  · obtain ⟨a, c, h1, _, h3, h4⟩ := h
    cases hs
    exact ⟨a, c, h1, h3, h4⟩
  · next hn =>
    have h10 : shapeI o = (false, [], .nil, 10) := by
      unfold shapeI
      split
      · next b s i => exact absurd rfl (fun e => hn b s i e)
      · rfl
    rw [h10] at hs
    cases hs
    exact ⟨none, 0, h, by simp [Row.len], trivial⟩
theorem cut_take2 (x : ByteArray) (k : Nat) : x.extract 0 k = ⟨(x.data.toList.take k).toArray⟩ := by rw [extract_str]; simp

set_option maxRecDepth 8000 in
set_option maxHeartbeats 8000000 in
theorem reads_walk (s : ByteArray) (w : World) (hsz : s.size ≤ 9223372036854775807) :
    Calls Try.prog 4 #[.string s] w fun e w' => e = .returned (.bool true) ∧ Below w.heap.size w w' := by
  obtain ⟨X, hX⟩ : ∃ X : ByteArray, ((s.size : Int) ≤ 5000 ∧ X = s) ∨ ((5000 : Int) < s.size ∧ s.extract 0 5000 = X) := by
    by_cases h : s.size ≤ 5000
    · exact ⟨s, .inl ⟨by omega, rfl⟩⟩
    · exact ⟨_, .inr ⟨by omega, rfl⟩⟩
  have hXs : X.size ≤ 5000 := by
    rcases hX with ⟨h, rfl⟩ | ⟨_, h⟩
    · omega
    · rw [← h, cut_take2]; show (List.toArray _).size ≤ 5000; simp; omega
  rcases hsh : shapeI (decode X.data.toList) with ⟨b, t, i, E⟩
  have HSH : Hid (shapeI (decode X.data.toList) = (b, t, i, E)) := hsh
  have HXS : Hid (X.size ≤ 100000 ∧ X.size < 4611686018427387904) := ⟨by omega, by omega⟩
  clear hsh hXs
  have HB : Below w.heap.size w w := Below.refl _ _
  cases hsp : split X.data.toList <;> rcases hX with ⟨hs4, hX⟩ | ⟨hs4, hX2⟩
  all_goals (try subst hX)
  all_goals (try have hs6 : (5000 : Int) ≤ s.size := by omega)
  all_goals (
    go_enter Try.func4, Try.ntmps4
    go_wp2_with fail
    refine (awake_any _).mono ?_
    rintro e v1 ⟨rfl, hB1⟩
    replace HB := HB.trans (hB1.mono HB.size)
    clear hB1
    go_wp2_with fail
    (try rw [hX2])
    refine (decode_any X _ HXS.out.1).mono ?_
    rintro e v2 ⟨he2, hB2⟩
    obtain ⟨a1, c1, rfl, hil, hl1⟩ := itemAns_row he2 HSH.out
    replace HB := HB.trans (hB2.mono HB.size)
    have HL1 : Hid (Lies v2 (fun k => v1.heap.size ≤ k ∧ k < v2.heap.size) i a1) := hl1
    clear hB2 he2 hl1
    go_wp2_with fail
    (try rw [hX2])
    refine (refDecode_any X _ HXS.out.1).mono ?_
    rintro e v3 ⟨he3, hB3⟩
    obtain ⟨a2, c2, rfl, _, hl2⟩ := itemAns_row he3 HSH.out
    have hm1 : Holds v3 v2.heap.size 24 #[.bool b, .string ⟨t.toArray⟩, .slice a1 i.len c1] := below_holds hB3 (Holds.new v2 _ _)
    have hm2 := hm1.alloc (.cells #[.bool b, .string ⟨t.toArray⟩, .slice a2 i.len c2] 24)
    have hB3w := one_alloc hB3
    replace HB := HB.trans (hB3w.mono HB.size)
    have hLL : Lies (v3.alloc (.cells #[.bool b, .string ⟨t.toArray⟩, .slice a2 i.len c2] 24)) (fun k => k < (v3.alloc (.cells #[.bool b, .string ⟨t.toArray⟩, .slice a2 i.len c2] 24)).heap.size) i a1 ∧
        Lies (v3.alloc (.cells #[.bool b, .string ⟨t.toArray⟩, .slice a2 i.len c2] 24)) (fun k => k < (v3.alloc (.cells #[.bool b, .string ⟨t.toArray⟩, .slice a2 i.len c2] 24)).heap.size) i a2 := by
      have hz := hB3w.size
      refine ⟨(HL1.out.kept fun j hj => ?_).mono fun j hj => ?_, (hl2.kept fun j hj => ?_).mono fun j hj => ?_⟩
      · rw [heap_alloc_old _ _ (by omega), hB3w.block j hj.2]
      · rw [World.size_alloc]; omega
      · rw [heap_alloc_old _ _ hj.2]
      · rw [World.size_alloc]; omega
    have HLL : Hid _ := hLL
    clear hLL hl2 he3 hB3 hB3w hm1
    go_wp2_with (first
      | (refine wpList_loadH rfl 24 _ rfl v2.heap.size rfl 24 _ _ hm2 Try.underlying24 rfl infoItem3 ?_)
      | (go_at_call 19; refine (same_any (i.sz + 1) i b t a1 a2 c1 c2 _ (by omega) (by omega) HLL.out.1 HLL.out.2).mono ?_; rintro e v4 ⟨rfl, hB4⟩)
      | fail)
    replace HB := HB.trans ((one_alloc hB4).mono HB.size)
    clear hB4 hm2
    (try rw [hX2])
    refine (split_any X _ HXS.out.2).mono ?_
    rintro e v5 ⟨rfl, hB5⟩
    rw [hsp]
    unfold splitV
    replace HB := HB.trans (hB5.mono HB.size)
    clear hB5
    go_wp2_with fail
    (try rw [hX2])
    refine (refSplit_any X _ HXS.out.2).mono ?_
    rintro e v6 ⟨rfl, hB6⟩
    rw [hsp]
    unfold splitV
    replace HB := HB.trans (hB6.mono HB.size)
    clear hB6
    go_wp2_with fail
    go_ret
    exact ⟨rfl, HB⟩)
end Go.Proofs.Ytikpmafmmjfioaa
