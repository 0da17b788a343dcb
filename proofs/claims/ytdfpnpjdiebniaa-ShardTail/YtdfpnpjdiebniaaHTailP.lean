/-
  What ShardTail leans on: one number more.
-/
import Derived.Test.YtdfpnpjdiebniaaHGrowsP
import Derived.Test.YtdfpnpjdiebniaaHPlanD
namespace Go.Proofs.Ytdfpnpjdiebniaa
open Go Go.RowKit

theorem last_app {a b : List Nat} (h : 1 ≤ b.length) : (a ++ b).getLastD 0 = b.getLastD 0 := by
  cases b with
  | nil => simp at h
  | cons x l =>
    rw [List.getLastD_eq_getLast?, List.getLastD_eq_getLast?, List.getLast?_append]
    cases hq : (x :: l).getLast? with
    | none => simp at hq
    | some y => rfl
theorem tail_cases {m : List Nat} {n : Nat} {L L' : List Ck} (hm : Nums m) (hs : SplitOf m L) (hs' : SplitOf (m ++ [n]) L') :
    (L = [] ∧ ∃ d, L' = [(2147483647, d)]) ∨ (∃ K d d', L = K ++ [(2147483647, d)] ∧ L' = K ++ [(2147483647, d')]) ∨ (∃ K d d', L = K ++ [(2147483647, d)] ∧ L' = K ++ [(((m.getLastD 0 : Nat) : Int), d), (2147483647, d')]) := by
  obtain ⟨ps, hg, rfl, rfl⟩ := hs.good hm
  by_cases hz : ps = []
  · subst hz
    exact .inl ⟨rfl, _, hs'.uniq ⟨[[n]], ⟨Nat.le_refl _, by simp⟩, rfl, rfl⟩⟩
  · obtain ⟨qs, p, hps, hq64, hnp, hp1, hp64, hlen, hfull⟩ := hg.last hz
    have hL : chk ps = fulls qs ++ [(2147483647, dataOf p)] := by rw [hps, chk_app qs (by simp)]; rfl
    have hT : ps.flatten ++ [n] = qs.flatten ++ (p ++ [n]) := by rw [hps, List.flatten_append]; simp
    rw [hT] at hs'
    by_cases h64 : p.length < 64
    · refine .inr (.inl ⟨fulls qs, _, dataOf (p ++ [n]), hL, hs'.uniq (splitOf_app hq64 ⟨[p ++ [n]], ⟨by rw [List.length_append]; simp, by rw [List.length_append]; simp; omega⟩, by simp, rfl⟩ (by simp))⟩)
    · refine .inr (.inr ⟨fulls qs, dataOf p, dataOf [n], hL, ?_⟩)
      have hla : ps.flatten.getLastD 0 = p.getLastD 0 := by
        rw [hps, List.flatten_append]
        simp only [List.flatten_cons, List.flatten_nil, List.append_nil]
        exact last_app hp1
      rw [hla]
      exact hs'.uniq (splitOf_app hq64 ⟨[p, [n]], ⟨by omega, by simp [Parted]⟩, by simp, rfl⟩ (by simp))
/-- Those that are added. -/
def under (l : List Int) : List Int := l.filter fun x => decide (x < 1073741824)
theorem under_len (l : List Int) : (under l).length ≤ l.length := List.length_filter_le _ _
theorem under_take {l : List Int} {k : Nat} {x : Int} (h : l[k]? = some x) : under (l.take (k + 1)) = if x < 1073741824 then under (l.take k) ++ [x] else under (l.take k) := by
  unfold under
  rw [List.take_add_one, h, List.filter_append]
  by_cases hx : x < 1073741824
  · rw [if_pos hx]; simp [hx]
  · rw [if_neg hx]; simp [hx]
theorem under_bound (l : List Int) : ∀ n, ofInts (under l) n = true → n < 1073741824 := fun n h => by
  unfold ofInts at h
  rw [Bool.and_eq_true] at h
  have := of_decide_eq_true h.1
  have := of_decide_eq_true (List.mem_filter.1 this).2
  omega
theorem wrapH2 (d : Int) (h : 0 ≤ d ∧ d ≤ 1000000) : IntKind.i64.wrap d = d := by rw [IntKind.wrap_i64]; omega
end Go.Proofs.Ytdfpnpjdiebniaa
