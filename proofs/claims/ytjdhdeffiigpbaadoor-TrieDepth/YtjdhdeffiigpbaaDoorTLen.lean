/-
  How long nodes are.
-/
import Derived.Test.YtjdhdeffiigpbaaDoorTHavW
namespace Go.Proofs.YtjdhdeffiigpbaaDoor
open Go Go.RowKit Nb

theorem leafL_len (p v : List UInt8) : (leafL p v).length ≤ p.length / 2 + v.length + 28 := by
  unfold leafL
  have h1 := listL_len (bytesL (pck p true) ++ bytesL v)
  have h2 := bytesL_len (pck p true)
  have h3 := bytesL_len v
  have h4 := pck_len p true
  rw [List.length_append] at h1
  omega
theorem extL_len (p r : List UInt8) : (extL p r).length ≤ p.length / 2 + r.length + 19 := by
  unfold extL
  have h1 := listL_len (bytesL (pck p false) ++ r)
  have h2 := bytesL_len (pck p false)
  have h4 := pck_len p false
  rw [List.length_append] at h1
  omega
theorem flat_len (m : Nat) (f : Nat → List UInt8) (h : ∀ c, c < 16 → (f c).length ≤ m) (hm : 1 ≤ m) : ∀ n, n ≤ 16 → (((List.range n).map fun c => if f c = [] then [128] else f c).flatten).length ≤ n * m
  | 0, _ => by simp
  | n + 1, hn => by
    have ih := flat_len m f h hm n (by omega)
    have h1 := h n (by omega)
    rw [List.range_succ, List.map_append, List.flatten_append, List.length_append, Nat.succ_mul]
    have h2 : ((List.map (fun c => if f c = [] then [128] else f c) [n]).flatten).length ≤ m := by
      simp only [List.map_cons, List.map_nil, List.flatten_cons, List.flatten_nil, List.append_nil]
      split
      · simpa using hm
      · exact h1
    omega
theorem brL_len (m : Nat) (f : Nat → List UInt8) (h : ∀ c, c < 16 → (f c).length ≤ m) (hm : 1 ≤ m) : (brL f).length ≤ 16 * m + 10 := by
  unfold brL
  have h1 := flat_len m f h hm 16 (Nat.le_refl _)
  have h2 := listL_len (((List.range 16).map fun c => if f c = [] then [128] else f c).flatten ++ [128])
  rw [List.length_append] at h2
  have h3 : ([128] : List UInt8).length = 1 := rfl
  omega
theorem kids_len (q : Nat) (L : List Pr) (c : Nat) : (kids q L c).length ≤ 41 := by
  unfold kids
  split
  · simp
  · exact refN_len _
theorem node_len {m V d : Nat} {L : List Pr} (hm : May m L) (hv : ∀ p ∈ L, p.2.size ≤ V) : (node d L).length ≤ m + V + 700 := by
  rcases may_cases hm with rfl | ⟨p, rfl⟩ | ⟨q, hq⟩
  · rw [node]; simp
  · rw [node_one]
    have h1 := leafL_len ((kb p).drop d) (vb p)
    have h2 := hm.len p List.mem_cons_self
    have h3 := hv p List.mem_cons_self
    have h4 : (vb p).length = p.2.size := rfl
    rw [List.length_drop] at h1
    omega
  · obtain ⟨x, hx, _⟩ := hq.differ
    have hb := brL_len 41 (kids q L) (fun c _ => kids_len q L c) (by omega)
    rw [node_many hm hq hx]
    split
    · have h1 := extL_len (((kb x).take q).drop d) (refN (brL (kids q L)))
      have h2 := refN_len (brL (kids q L))
      have h3 := hm.len x hx
      rw [List.length_drop, List.length_take] at h1
      omega
    · omega
end Go.Proofs.YtjdhdeffiigpbaaDoor
