/-
  Bytes tell the set.
-/
import Derived.Test.YtbenfmhcpipehaaBPartP
namespace Go.Proofs.Ytbenfmhcpipehaa
open Go Go.RowKit Go.Maps

theorem SplitOk.one {l : List Nat} {u u' : Nat} {p p' : Nat → Bool} {r r' : List Nat} (h : SplitOk l u p r) (k : SplitOk l u' p' r') : u = u' ∧ contA p = contA p' ∧ r = r' := by
  refine ⟨h.upper.trans k.upper.symm, ?_, h.rest.trans k.rest.symm⟩
  by_cases e : l[3]?.getD 0 + 1 ≤ 32
  · exact (h.list e).2.trans (k.list e).2.symm
  · exact (h.bits (by omega)).1.trans (k.bits (by omega)).1.symm
theorem toN_inj {a b : List UInt8} (h : toN a = toN b) : a = b := by
  unfold toN at h
  exact List.map_inj_right (fun x y e => UInt8.toNat_inj.1 e) |>.1 h
theorem part_inj {M M' : Nat → Bool} {u u' : Nat} (hu : u < NU) (hl : liveU M u) (hu' : u' < NU) (hl' : liveU M' u') {r r' : List UInt8} (h : partB M u ++ r = partB M' u' ++ r') : u = u' ∧ contA (atU M u) = contA (atU M' u') ∧ r = r' := by
  have h1 := split_part hu hl r
  have h2 := split_part hu' hl' r'
  rw [h] at h1
  obtain ⟨e1, e2, e3⟩ := h1.one h2
  exact ⟨e1, e2, toN_inj e3⟩
theorem partB_ne (M : Nat → Bool) (u : Nat) (r : List UInt8) : partB M u ++ r ≠ [] := by unfold partB; simp
theorem flat_inj {M M' : Nat → Bool} : ∀ {us us' : List Nat}, (∀ u ∈ us, u < NU ∧ liveU M u) → (∀ u ∈ us', u < NU ∧ liveU M' u) → us.flatMap (partB M) = us'.flatMap (partB M') → us = us' ∧ ∀ u ∈ us, contA (atU M u) = contA (atU M' u)
  | [], [], _, _, _ => ⟨rfl, fun _ h => by cases h⟩
  | [], u' :: us', _, _, h => by
    rw [List.flatMap_nil, List.flatMap_cons] at h
    exact absurd h.symm (partB_ne _ _ _)
  | u :: us, [], _, _, h => by
    rw [List.flatMap_nil, List.flatMap_cons] at h
    exact absurd h (partB_ne _ _ _)
  | u :: us, u' :: us', h1, h2, h => by
    rw [List.flatMap_cons, List.flatMap_cons] at h
    obtain ⟨e1, e2, e3⟩ := part_inj (h1 u (by simp)).1 (h1 u (by simp)).2 (h2 u' (by simp)).1 (h2 u' (by simp)).2 h
    subst e1
    obtain ⟨e4, e5⟩ := flat_inj (fun v hv => h1 v (by simp [hv])) (fun v hv => h2 v (by simp [hv])) e3
    subst e4
    refine ⟨rfl, fun v hv => ?_⟩
    rcases List.mem_cons.1 hv with rfl | hv
    · exact e2
    · exact e5 v hv
theorem bytesM_inj {M M' : Nat → Bool} (hM : ∀ n, M n = true → n < 2147483648) (hM' : ∀ n, M' n = true → n < 2147483648) (h : bytesM M = bytesM M') : M = M' := by
  obtain ⟨e1, e2⟩ := flat_inj (fun u hu => ⟨(mem_uppers.1 hu).1, (mem_uppers.1 hu).2.2⟩) (fun u hu => ⟨(mem_uppers.1 hu).1, (mem_uppers.1 hu).2.2⟩) h
  have key : ∀ (A B : Nat → Bool), (∀ n, A n = true → n < 2147483648) → uppers A 0 = uppers B 0 → (∀ u ∈ uppers A 0, contA (atU A u) = contA (atU B u)) → ∀ n, A n = true → B n = true := fun A B hA _ hc n hn => by
    have hb := hA n hn
    have hmem : n / 256 ∈ uppers A 0 := mem_uppers.2 ⟨by rw [NU_eq]; omega, Nat.zero_le _, n % 256, by omega, by rw [show 256 * (n / 256) + n % 256 = n by omega]; exact hn⟩
    have hi := contA_inj (hc _ hmem) (n % 256) (by omega)
    unfold atU at hi
    rw [show 256 * (n / 256) + n % 256 = n by omega] at hi
    rw [← hi]; exact hn
  funext n
  rw [Bool.eq_iff_iff]
  exact ⟨key M M' hM e1 e2 n, key M' M hM' e1.symm (fun u hu => (e2 u (by rw [e1]; exact hu)).symm) n⟩
end Go.Proofs.Ytbenfmhcpipehaa
