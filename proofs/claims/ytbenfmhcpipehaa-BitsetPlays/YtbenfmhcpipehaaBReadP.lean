/-
  What Read of a set's bytes leans on.
-/
import Derived.Test.YtbenfmhcpipehaaBInjP
import Derived.Test.YtbenfmhcpipehaaBReadBad
namespace Go.Proofs.Ytbenfmhcpipehaa
open Go Go.RowKit Go.Maps

/-- The members whose upper parts are among these. -/
def resM (M : Nat → Bool) (us : List Nat) (n : Nat) : Bool := M n && decide (n / 256 ∈ us)
theorem resM_nil (M : Nat → Bool) : resM M [] = fun _ => false := by funext n; simp [resM]
theorem resM_all {M : Nat → Bool} (hM : ∀ n, M n = true → n < 2147483648) : resM M (uppers M 0) = M := by
  funext n
  unfold resM
  rw [Bool.eq_iff_iff]
  simp
  intro h
  have := hM n h
  exact mem_uppers.2 ⟨by rw [NU_eq]; omega, Nat.zero_le _, n % 256, by omega, by rw [show 256 * (n / 256) + n % 256 = n by omega]; exact h⟩
theorem resM_step {M : Nat → Bool} {us : List Nat} {u : Nat} {p : Nat → Bool} (hp : contA p = contA (atU M u)) : setU (resM M us) u p = resM M (us ++ [u]) := by
  funext n
  unfold setU resM
  by_cases e : n / 256 = u
  · rw [if_pos e, contA_inj hp (n % 256) (by omega)]
    unfold atU
    rw [show 256 * u + n % 256 = n by omega]
    simp [e]
  · rw [if_neg e]
    simp [e]
/-- The bytes from the i-th container on. -/
def restB (M : Nat → Bool) (us : List Nat) (i : Nat) : List UInt8 := (us.drop i).flatMap (partB M)
theorem restB_step {M : Nat → Bool} {us : List Nat} {i u : Nat} (h : us[i]? = some u) : restB M us i = partB M u ++ restB M us (i + 1) := by
  unfold restB
  have hi := (List.getElem?_eq_some_iff.1 h).1
  rw [List.drop_eq_getElem_cons hi, List.flatMap_cons]
  rw [List.getElem?_eq_getElem hi] at h
  injection h with h
  rw [h]
theorem restB_len (M : Nat → Bool) (us : List Nat) (i : Nat) (hl : us.length ≤ 8388608) : (restB M us i).length ≤ 301989888 := by
  have := flatB_len M (us.drop i)
  unfold restB
  rw [List.length_drop] at this
  omega
theorem split_is {M : Nat → Bool} {u : Nat} {r : List UInt8} (hu : u < NU) (hl : liveU M u) {v : Value} (h : splitV (toN (partB M u ++ r)) v) : ∃ p, contA p = contA (atU M u) ∧ v = .tuple #[.agg (partA u (contA p)), .string ⟨r.toArray⟩, .bool true] := by
  have ok := split_part hu hl r
  rcases h with ⟨u', p, r', h1, h2⟩ | ⟨h1, _⟩
  · obtain ⟨e1, e2, e3⟩ := h1.one ok
    subst e1
    refine ⟨p, e2, ?_⟩
    have : r' = ⟨r.toArray⟩ := by
      obtain ⟨d⟩ := r'
      have e4 : toN d.toList = toN r := e3
      have := toN_inj e4
      rw [← this]
    rw [h2, this]
  · exact absurd ok (h1 _ _ _)
/-- The upper part ahead. -/
def ahead (us : List Nat) (i : Nat) : Int := match i with
  | 0 => -1
  | j + 1 => ((us[j]?.getD 0 : Nat) : Int)
theorem ahead_lt {us : List Nat} {i u : Nat} (hr : us.Pairwise (· < ·)) (h : us[i]? = some u) : ahead us i < u := by
  cases i with
  | zero => simp [ahead]; omega
  | succ j =>
    have h2 := (List.getElem?_eq_some_iff.1 h).1
    have h1 : j < us.length := by omega
    have := List.pairwise_iff_getElem.1 hr j (j + 1) h1 h2 (by omega)
    rw [List.getElem?_eq_getElem h2] at h
    injection h with h
    simp [ahead, List.getElem?_eq_getElem h1]
    omega
theorem ahead_next {us : List Nat} {i u : Nat} (h : us[i]? = some u) : ahead us (i + 1) = (u : Int) := by simp [ahead, h]

end Go.Proofs.Ytbenfmhcpipehaa
