/-
  The document's bytes, run by run.
-/
import Derived.Test.YtiokbhbggpibpaaBBackP
namespace Go.Proofs.Ytiokbhbggpibpaa
open Go Go.RowKit Go.Maps

/-- The set of these numbers. -/
def ofN (l : List Nat) (n : Nat) : Bool := decide (n ∈ l)
theorem ofN_bound {l : List Nat} (h : ∀ x ∈ l, x < 2147483648) : ∀ n, ofN l n = true → n < 2147483648 := fun n hn => h n (of_decide_eq_true hn)
theorem mem_ofN {l : List Nat} (hr : l.Pairwise (· < ·)) (h : ∀ x ∈ l, x < 2147483648) : memFrom (ofN l) 0 = l :=
  eq_of_rising (memFrom_rises _ _) hr fun x => by
    rw [mem_memFrom (ofN_bound h)]
    unfold ofN
    simp
theorem ofN_mem {M : Nat → Bool} (hM : ∀ n, M n = true → n < 2147483648) : ofN (memFrom M 0) = M := by
  funext n
  unfold ofN
  rw [Bool.eq_iff_iff]
  simp [mem_memFrom hM]
theorem ofN_nil : ofN [] = fun _ => false := by funext n; simp [ofN]
/-- The numbers from the i-th to the k-th. -/
def runL (L : List Nat) (i k : Nat) : List Nat := (L.take k).drop i
theorem runL_snoc {L : List Nat} {i k x : Nat} (hik : i ≤ k) (h : L[k]? = some x) : runL L i (k + 1) = runL L i k ++ [x] := by
  unfold runL
  have hk := (List.getElem?_eq_some_iff.1 h).1
  rw [take_snoc h, List.drop_append_of_le_length (by rw [List.length_take]; omega)]
theorem runL_nil (L : List Nat) (i : Nat) : runL L i i = [] := by
  unfold runL
  rw [List.drop_of_length_le (by rw [List.length_take]; omega)]
theorem runL_len {L : List Nat} {i k : Nat} (hk : k ≤ L.length) : (runL L i k).length = k - i := by
  unfold runL
  rw [List.length_drop, List.length_take]
  omega
theorem take_run {L : List Nat} {i k : Nat} (hik : i ≤ k) : L.take k = L.take i ++ runL L i k := by
  unfold runL
  conv => lhs; rw [← List.take_append_drop i (L.take k)]
  rw [List.take_take, Nat.min_eq_left hik]
/-- All of them have this upper part. -/
def OfUp (u : Nat) (l : List Nat) : Prop := ∀ x ∈ l, x / 256 = u
/-- The numbers behind stand above. -/
def Ahead (L : List Nat) (i u : Nat) : Prop := ∀ x ∈ L.take i, x / 256 < u

theorem run_rises {L : List Nat} {i k : Nat} (hr : L.Pairwise (· < ·)) : (runL L i k).Pairwise (· < ·) := by
  unfold runL
  exact (hr.sublist ((List.drop_sublist _ _).trans (List.take_sublist _ _)))
theorem run_mods {u : Nat} : ∀ {l : List Nat}, l.Pairwise (· < ·) → OfUp u l → (l.map (· % 256)).Pairwise (· < ·) := fun {l} h hu => by
  rw [List.pairwise_map]
  refine h.imp_of_mem fun {a b} ha hb hab => ?_
  have h1 := hu a ha
  have h2 := hu b hb
  omega
theorem run_cont {L : List Nat} {i k u : Nat} (hik : i ≤ k) (ha : Ahead L i u) (hu : OfUp u (runL L i k)) : contA (atU (ofN (L.take k)) u) = contA (ofList ((runL L i k).map (· % 256))) := contA_congr fun l hl => by
  unfold atU ofN ofList
  rw [take_run hik]
  refine decide_eq_decide.2 ?_
  rw [List.mem_append, List.mem_map]
  constructor
  · rintro (h | h)
    · have := ha _ h; omega
    · exact ⟨_, h, by omega⟩
  · rintro ⟨x, hx, e⟩
    have := hu x hx
    rw [show 256 * u + l = x by omega]
    exact .inr hx
theorem run_lows {L : List Nat} {i k u : Nat} (hr : L.Pairwise (· < ·)) (hik : i ≤ k) (ha : Ahead L i u) (hu : OfUp u (runL L i k)) : lowsL (atU (ofN (L.take k)) u) 0 = (runL L i k).map (· % 256) := by
  rw [lows_congr (run_cont hik ha hu)]
  refine lows_ofList (run_mods (run_rises hr) hu) fun x hx => ?_
  obtain ⟨y, _, rfl⟩ := List.mem_map.1 hx
  omega
theorem run_setU {L : List Nat} {i k u : Nat} (hik : i ≤ k) (hu : OfUp u (runL L i k)) : ofN (L.take k) = setU (ofN (L.take i)) u (atU (ofN (L.take k)) u) := by
  funext n
  unfold setU
  by_cases e : n / 256 = u
  · rw [if_pos e]
    unfold atU
    rw [show 256 * u + n % 256 = n by omega]
  · rw [if_neg e]
    unfold ofN
    refine decide_eq_decide.2 ?_
    rw [take_run hik, List.mem_append]
    exact ⟨fun h => h.resolve_right fun h => e (hu n h), .inl⟩
/-- A run's head. -/
def headB (u m : Nat) : List UInt8 := [UInt8.ofNat (u / 65536), UInt8.ofNat (u / 256), UInt8.ofNat u, UInt8.ofNat (m - 1)]
theorem run_bytes {L : List Nat} {i k u : Nat} (hr : L.Pairwise (· < ·)) (hu8 : u < NU) (hik : i < k) (hk : k ≤ L.length) (ha : Ahead L i u) (hu : OfUp u (runL L i k)) :
    bytesM (ofN (L.take k)) = bytesM (ofN (L.take i)) ++ headB u (k - i) ++ bodyB (atU (ofN (L.take k)) u) := by
  have hlow := run_lows hr (Nat.le_of_lt hik) ha hu
  have hcnt : cnt (atU (ofN (L.take k)) u) = k - i := by rw [cnt_lows, hlow, List.length_map, runL_len hk]
  have hsome : ∃ l, l < 256 ∧ atU (ofN (L.take k)) u l = true := by
    have : 0 < cnt (atU (ofN (L.take k)) u) := by omega
    exact cnt_pos.1 this
  have hb := bytesM_setU (M := ofN (L.take i)) (u := u) (p := atU (ofN (L.take k)) u) hu8 (fun n hn => ha n (of_decide_eq_true hn)) hsome
  rw [← run_setU (Nat.le_of_lt hik) hu] at hb
  rw [hb, List.append_assoc]
  unfold partB headB
  rw [hcnt]
theorem run_list {L : List Nat} {i k u : Nat} (hr : L.Pairwise (· < ·)) (hik : i < k) (hk : k ≤ L.length) (ha : Ahead L i u) (hu : OfUp u (runL L i k)) (h32 : k - i ≤ 32) : bodyB (atU (ofN (L.take k)) u) = (runL L i k).map fun x => UInt8.ofNat (x % 256) := by
  have hlow := run_lows hr (Nat.le_of_lt hik) ha hu
  have hcnt : cnt (atU (ofN (L.take k)) u) = k - i := by rw [cnt_lows, hlow, List.length_map, runL_len hk]
  unfold bodyB
  rw [hcnt, if_pos h32]
  unfold lowB
  rw [hlow, List.map_map]
  rfl
theorem run_bits {L : List Nat} {i k u : Nat} (hr : L.Pairwise (· < ·)) (hik : i < k) (hk : k ≤ L.length) (ha : Ahead L i u) (hu : OfUp u (runL L i k)) (h32 : ¬ k - i ≤ 32) : bodyB (atU (ofN (L.take k)) u) = bitB (ofList ((runL L i k).map (· % 256))) := by
  have hlow := run_lows hr (Nat.le_of_lt hik) ha hu
  have hcnt : cnt (atU (ofN (L.take k)) u) = k - i := by rw [cnt_lows, hlow, List.length_map, runL_len hk]
  rw [bodyB_congr (run_cont (Nat.le_of_lt hik) ha hu)]
  unfold bodyB
  rw [← cnt_of_cont (run_cont (Nat.le_of_lt hik) ha hu), hcnt, if_neg h32]
theorem ahead_next2 {L : List Nat} {i k u z y : Nat} (hr : L.Pairwise (· < ·)) (hlt : i < k) (hi : L[i]? = some y) (hy : y / 256 = u) (ha : Ahead L i u) (hu : OfUp u (runL L i k)) (hk : L[k]? = some z) (hz : z / 256 ≠ u) : Ahead L k (z / 256) := fun x hx => by
  have hik : i ≤ k := Nat.le_of_lt hlt
  have hyz : y < z := by
    have hi1 := (List.getElem?_eq_some_iff.1 hi).1
    have hk1 := (List.getElem?_eq_some_iff.1 hk).1
    have := List.pairwise_iff_getElem.1 hr i k hi1 hk1 hlt
    rw [List.getElem?_eq_getElem hi1] at hi
    rw [List.getElem?_eq_getElem hk1] at hk
    injection hi with hi
    injection hk with hk
    omega
  have hxz : x < z := by
    obtain ⟨j, hj⟩ := List.getElem?_of_mem hx
    have hj1 := (List.getElem?_eq_some_iff.1 hj).1
    have hk1 := (List.getElem?_eq_some_iff.1 hk).1
    rw [List.length_take] at hj1
    rw [List.getElem?_take_of_lt (by omega)] at hj
    have := List.pairwise_iff_getElem.1 hr j k (by omega) hk1 (by omega)
    rw [List.getElem?_eq_getElem (by omega)] at hj hk
    injection hj with hj
    injection hk with hk
    omega
  rw [take_run hik, List.mem_append] at hx
  rcases hx with h | h
  · have := ha x h
    omega
  · have := hu x h
    omega
theorem run_up {L : List Nat} {i k x u : Nat} (hik : i ≤ k) (h : L[k]? = some x) (hx : x / 256 = u) (hu : OfUp u (runL L i k)) : OfUp u (runL L i (k + 1)) := by
  rw [runL_snoc hik h]
  intro y hy
  rcases List.mem_append.1 hy with hy | hy
  · exact hu y hy
  · rw [List.mem_singleton.1 hy]; exact hx
end Go.Proofs.Ytiokbhbggpibpaa
