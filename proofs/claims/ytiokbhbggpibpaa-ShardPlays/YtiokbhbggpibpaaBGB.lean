/-
  Texts of this claim, put together.
-/
import Derived.Test.YtiokbhbggpibpaaBOrderW
import Derived.Test.YtiokbhbggpibpaaBGI
import Derived.Test.YtiokbhbggpibpaaBSplitW
import Derived.Test.YtiokbhbggpibpaaBReadBad
/-
  What same does.
-/
namespace Go.Proofs.Ytiokbhbggpibpaa
open Go Go.RowKit Go.Maps

theorem eq_step {l m : List Int} {i : Nat} {x : Int} (h : l.take i = m.take i) (hl : l[i]? = some x) (hm : m[i]? = some x) : l.take (i + 1) = m.take (i + 1) := by
  have h1 := (List.getElem?_eq_some_iff.1 hl).1
  have h2 := (List.getElem?_eq_some_iff.1 hm).1
  rw [List.take_succ_eq_append_getElem h1, List.take_succ_eq_append_getElem h2, h]
  rw [List.getElem?_eq_getElem h1] at hl
  rw [List.getElem?_eq_getElem h2] at hm
  injection hl with hl
  injection hm with hm
  rw [hl, hm]
end Go.Proofs.Ytiokbhbggpibpaa
/-
  A container's bytes are split as that container.
-/
namespace Go.Proofs.Ytiokbhbggpibpaa
open Go Go.RowKit Go.Maps

/-- Bytes as numbers. -/
def toN (l : List UInt8) : List Nat := l.map UInt8.toNat
theorem toN_append (a b : List UInt8) : toN (a ++ b) = toN a ++ toN b := List.map_append
theorem toN_len (a : List UInt8) : (toN a).length = a.length := List.length_map _
theorem numsB_mk (l : List UInt8) : numsB ⟨l.toArray⟩ = toN l := rfl
theorem toN_lowB (p : Nat → Bool) : toN (lowB p) = lowsL p 0 := by
  unfold toN lowB
  rw [List.map_map]
  refine (List.map_congr_left fun l hl => ?_).trans (List.map_id _)
  have := (lowsL_lt hl).2.1
  simp
  omega
theorem toN_bitB (p : Nat → Bool) : toN (bitB p) = (List.range 32).map (bt p) := by
  unfold toN bitB
  rw [List.map_map]
  refine List.map_congr_left fun i _ => ?_
  have := bt_lt p i
  simp
  omega
theorem ofList_lows (p : Nat → Bool) : contA p = contA (ofList (lowsL p 0)) := contA_congr fun l hl => by
  unfold ofList
  rw [Bool.eq_iff_iff]
  simp [mem_lowsL, hl]
theorem bitsP_bits (p : Nat → Bool) : contA p = contA (bitsP ((List.range 32).map (bt p))) := by
  unfold contA
  congr 1
  funext i
  have hi := i.isLt
  have e : bt (bitsP ((List.range 32).map (bt p))) i.val = bt p i.val := by
    unfold bitsP
    have hg : ((List.range 32).map (bt p))[i.val]?.getD 0 = bt p i.val := by
      rw [List.getElem?_map, List.getElem?_range hi]; rfl
    rw [bt_ofBytes _ _ (by rw [hg]; exact bt_lt p _), hg]
  rw [e]

theorem bodyB_size (p : Nat → Bool) : (bodyB p).length = kindSz (cnt p) := by
  unfold bodyB kindSz
  split
  · rw [lowB_len, cnt_lows]
  · exact bitB_len p
theorem split_part {M : Nat → Bool} {u : Nat} (hu : u < NU) (hl : liveU M u) (r : List UInt8) : SplitOk (toN (partB M u ++ r)) u (atU M u) (toN r) := by
  rw [NU_eq] at hu
  have hc := cnt_pos.2 hl
  have hc' : 0 < cnt (atU M u) := hc
  have hc2 := cnt_le (atU M u)
  have hN : toN (partB M u ++ r) = [u / 65536, u / 256 % 256, u % 256, cnt (atU M u) - 1] ++ (toN (bodyB (atU M u)) ++ toN r) := by
    unfold partB
    rw [toN_append, toN_append, List.append_assoc]
    congr 1
    simp [toN]
    omega
  have hb := bodyB_size (atU M u)
  have h3 : (toN (partB M u ++ r))[3]?.getD 0 + 1 = cnt (atU M u) := by rw [hN]; simp; omega
  have hd4 : (toN (partB M u ++ r)).drop 4 = toN (bodyB (atU M u)) ++ toN r := by rw [hN]; rfl
  have hlen : (toN (partB M u ++ r)).length = 4 + (kindSz (cnt (atU M u)) + r.length) := by
    rw [hN]; simp [toN_len, hb]; omega
  refine ⟨by omega, by rw [hN]; simp; omega, by rw [NU_eq]; exact hu, by rw [h3]; omega, ?_, ?_, ?_⟩
  · rw [h3, ← List.drop_drop, hd4, ← hb, ← toN_len, List.drop_left]
  · rw [h3, hd4]
    intro h
    have e : kindSz (cnt (atU M u)) = cnt (atU M u) := by unfold kindSz; rw [if_pos h]
    have eb : toN (bodyB (atU M u)) = lowsL (atU M u) 0 := by unfold bodyB; rw [if_pos h, toN_lowB]
    have et : (toN (bodyB (atU M u)) ++ toN r).take (cnt (atU M u)) = lowsL (atU M u) 0 := by
      rw [List.take_left' (by rw [toN_len, hb, e]), eb]
    rw [et]
    exact ⟨lowsL_rises _ _, ofList_lows _⟩
  · rw [h3, hd4]
    intro h
    have eb : toN (bodyB (atU M u)) = (List.range 32).map (bt (atU M u)) := by unfold bodyB; rw [if_neg (by omega), toN_bitB]
    have et : (toN (bodyB (atU M u)) ++ toN r).take 32 = (List.range 32).map (bt (atU M u)) := by
      rw [List.take_left' (by rw [eb]; simp), eb]
    rw [et]
    exact ⟨bitsP_bits _, rfl⟩
end Go.Proofs.Ytiokbhbggpibpaa
/-
  Bytes tell the set.
-/
namespace Go.Proofs.Ytiokbhbggpibpaa
open Go Go.RowKit Go.Maps

theorem SplitOk.one {l : List Nat} {u u' : Nat} {p p' : Nat → Bool} {r r' : List Nat} (h : SplitOk l u p r) (k : SplitOk l u' p' r') : u = u' ∧ contA p = contA p' ∧ r = r' := by
  refine ⟨h.upper.trans k.upper.symm, ?_, h.rest.trans k.rest.symm⟩
  by_cases e : l[3]?.getD 0 + 1 ≤ 32
  · exact (h.list e).2.trans (k.list e).2.symm
  · exact (h.bits (by omega)).1.trans (k.bits (by omega)).1.symm
theorem toN_inj {a b : List UInt8} (h : toN a = toN b) : a = b := by
  unfold toN at h
  exact List.map_inj_right (fun x y e => UInt8.toNat_inj.1 e) |>.1 h
theorem part_inj {M M' : Nat → Bool} {u u' : Nat} (hu : u < NU) (hl : liveU M u) (hu' : u' < NU) (hl' : liveU M' u') {r r' : List UInt8} (h : partB M u ++ r = partB M' u' ++ r') : u = u' ∧ contA (atU M u) = contA (atU M' u') ∧ r = r' := by
  have h1 := split_part hu hl r
  have h2 := split_part hu' hl' r'
  rw [h] at h1
  obtain ⟨e1, e2, e3⟩ := h1.one h2
  exact ⟨e1, e2, toN_inj e3⟩
theorem partB_ne (M : Nat → Bool) (u : Nat) (r : List UInt8) : partB M u ++ r ≠ [] := by unfold partB; simp
theorem flat_inj {M M' : Nat → Bool} : ∀ {us us' : List Nat}, (∀ u ∈ us, u < NU ∧ liveU M u) → (∀ u ∈ us', u < NU ∧ liveU M' u) → us.flatMap (partB M) = us'.flatMap (partB M') → us = us' ∧ ∀ u ∈ us, contA (atU M u) = contA (atU M' u)
  | [], [], _, _, _ => ⟨rfl, fun _ h => by cases h⟩
  | [], u' :: us', _, _, h => by
    rw [List.flatMap_nil, List.flatMap_cons] at h
    exact absurd h.symm (partB_ne _ _ _)
  | u :: us, [], _, _, h => by
    rw [List.flatMap_nil, List.flatMap_cons] at h
    exact absurd h (partB_ne _ _ _)
  | u :: us, u' :: us', h1, h2, h => by
    rw [List.flatMap_cons, List.flatMap_cons] at h
    obtain ⟨e1, e2, e3⟩ := part_inj (h1 u (by simp)).1 (h1 u (by simp)).2 (h2 u' (by simp)).1 (h2 u' (by simp)).2 h
    subst e1
    obtain ⟨e4, e5⟩ := flat_inj (fun v hv => h1 v (by simp [hv])) (fun v hv => h2 v (by simp [hv])) e3
    subst e4
    refine ⟨rfl, fun v hv => ?_⟩
    rcases List.mem_cons.1 hv with rfl | hv
    · exact e2
    · exact e5 v hv
theorem bytesM_inj {M M' : Nat → Bool} (hM : ∀ n, M n = true → n < 2147483648) (hM' : ∀ n, M' n = true → n < 2147483648) (h : bytesM M = bytesM M') : M = M' := by
  obtain ⟨e1, e2⟩ := flat_inj (fun u hu => ⟨(mem_uppers.1 hu).1, (mem_uppers.1 hu).2.2⟩) (fun u hu => ⟨(mem_uppers.1 hu).1, (mem_uppers.1 hu).2.2⟩) h
  have key : ∀ (A B : Nat → Bool), (∀ n, A n = true → n < 2147483648) → uppers A 0 = uppers B 0 → (∀ u ∈ uppers A 0, contA (atU A u) = contA (atU B u)) → ∀ n, A n = true → B n = true := fun A B hA _ hc n hn => by
    have hb := hA n hn
    have hmem : n / 256 ∈ uppers A 0 := mem_uppers.2 ⟨by rw [NU_eq]; omega, Nat.zero_le _, n % 256, by omega, by rw [show 256 * (n / 256) + n % 256 = n by omega]; exact hn⟩
    have hi := contA_inj (hc _ hmem) (n % 256) (by omega)
    unfold atU at hi
    rw [show 256 * (n / 256) + n % 256 = n by omega] at hi
    rw [← hi]; exact hn
  funext n
  rw [Bool.eq_iff_iff]
  exact ⟨key M M' hM e1 e2 n, key M' M hM' e1.symm (fun u hu => (e2 u (by rw [e1]; exact hu)).symm) n⟩
end Go.Proofs.Ytiokbhbggpibpaa
/-
  What Read of a set's bytes leans on.
-/
namespace Go.Proofs.Ytiokbhbggpibpaa
open Go Go.RowKit Go.Maps

/-- The members whose upper parts are among these. -/
def resM (M : Nat → Bool) (us : List Nat) (n : Nat) : Bool := M n && decide (n / 256 ∈ us)
theorem resM_nil (M : Nat → Bool) : resM M [] = fun _ => false := by funext n; simp [resM]
theorem resM_all {M : Nat → Bool} (hM : ∀ n, M n = true → n < 2147483648) : resM M (uppers M 0) = M := by
  funext n
  unfold resM
  rw [Bool.eq_iff_iff]
  simp
  intro h
  have := hM n h
  exact mem_uppers.2 ⟨by rw [NU_eq]; omega, Nat.zero_le _, n % 256, by omega, by rw [show 256 * (n / 256) + n % 256 = n by omega]; exact h⟩
theorem resM_step {M : Nat → Bool} {us : List Nat} {u : Nat} {p : Nat → Bool} (hp : contA p = contA (atU M u)) : setU (resM M us) u p = resM M (us ++ [u]) := by
  funext n
  unfold setU resM
  by_cases e : n / 256 = u
  · rw [if_pos e, contA_inj hp (n % 256) (by omega)]
    unfold atU
    rw [show 256 * u + n % 256 = n by omega]
    simp [e]
  · rw [if_neg e]
    simp [e]
/-- The bytes from the i-th container on. -/
def restB (M : Nat → Bool) (us : List Nat) (i : Nat) : List UInt8 := (us.drop i).flatMap (partB M)
theorem restB_step {M : Nat → Bool} {us : List Nat} {i u : Nat} (h : us[i]? = some u) : restB M us i = partB M u ++ restB M us (i + 1) := by
  unfold restB
  have hi := (List.getElem?_eq_some_iff.1 h).1
  rw [List.drop_eq_getElem_cons hi, List.flatMap_cons]
  rw [List.getElem?_eq_getElem hi] at h
  injection h with h
  rw [h]
theorem restB_len (M : Nat → Bool) (us : List Nat) (i : Nat) (hl : us.length ≤ 8388608) : (restB M us i).length ≤ 301989888 := by
  have := flatB_len M (us.drop i)
  unfold restB
  rw [List.length_drop] at this
  omega
theorem split_is {M : Nat → Bool} {u : Nat} {r : List UInt8} (hu : u < NU) (hl : liveU M u) {v : Value} (h : splitV (toN (partB M u ++ r)) v) : ∃ p, contA p = contA (atU M u) ∧ v = .tuple #[.agg (partA u (contA p)), .string ⟨r.toArray⟩, .bool true] := by
  have ok := split_part hu hl r
  rcases h with ⟨u', p, r', h1, h2⟩ | ⟨h1, _⟩
  · obtain ⟨e1, e2, e3⟩ := h1.one ok
    subst e1
    refine ⟨p, e2, ?_⟩
    have : r' = ⟨r.toArray⟩ := by
      obtain ⟨d⟩ := r'
      have e4 : toN d.toList = toN r := e3
      have := toN_inj e4
      rw [← this]
    rw [h2, this]
  · exact absurd ok (h1 _ _ _)
/-- The upper part ahead. -/
def ahead (us : List Nat) (i : Nat) : Int := match i with
  | 0 => -1
  | j + 1 => ((us[j]?.getD 0 : Nat) : Int)
theorem ahead_lt {us : List Nat} {i u : Nat} (hr : us.Pairwise (· < ·)) (h : us[i]? = some u) : ahead us i < u := by
  cases i with
  | zero => simp [ahead]; omega
  | succ j =>
    have h2 := (List.getElem?_eq_some_iff.1 h).1
    have h1 : j < us.length := by omega
    have := List.pairwise_iff_getElem.1 hr j (j + 1) h1 h2 (by omega)
    rw [List.getElem?_eq_getElem h2] at h
    injection h with h
    simp [ahead, List.getElem?_eq_getElem h1]
    omega
theorem ahead_next {us : List Nat} {i u : Nat} (h : us[i]? = some u) : ahead us (i + 1) = (u : Int) := by simp [ahead, h]

end Go.Proofs.Ytiokbhbggpibpaa
