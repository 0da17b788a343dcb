/-
  Bytes read as a node: pure.
-/
import Derived.Test.YtdgfjaidnedaiaaEBytesW
namespace Go.Proofs.Ytdgfjaidnedaiaa
open Go Go.RowKit Go.Lib

/-- What is left, and whether there was enough so far. -/
abbrev PS := List UInt8 × Bool
def takeP (n : Nat) (s : PS) : List UInt8 × PS := if n ≤ s.1.length then (s.1.take n, (s.1.drop n, s.2)) else ([], ([], false))
def beVal (l : List UInt8) : Nat := l.foldl (fun a x => a * 256 + x.toNat) 0
def numP (n : Nat) (s : PS) : Nat × PS := (beVal (takeP n s).1, (takeP n s).2)
def txt (l : List UInt8) : ByteArray := ⟨l.toArray⟩
def cellP (leaf : Bool) (s : PS) : Cl × PS :=
  let a := numP 1 s
  let b := takeP a.1 a.2
  if leaf = true then
    let c := numP 1 b.2
    if c.1 = 0 then
      let d := numP 1 c.2
      let e := takeP d.1 d.2
      (⟨txt b.1, txt e.1, 0, (e.1.length : Nat)⟩, e.2)
    else
      let d := numP 4 c.2
      let e := numP 4 d.2
      (⟨txt b.1, ⟨#[]⟩, (d.1 : Nat), (e.1 : Nat)⟩, e.2)
  else
    let c := numP 4 b.2
    (⟨txt b.1, ⟨#[]⟩, (c.1 : Nat), 0⟩, c.2)
def parseP (leaf : Bool) : Nat → PS → List Cl → List Cl × PS
  | 0, s, acc => (acc, s)
  | k + 1, s, acc => if s.2 = true then parseP leaf k (cellP leaf s).2 (acc ++ [(cellP leaf s).1]) else (acc, s)
def readP (leaf : Bool) (s : List UInt8) : List Cl × Bool := let a := numP 2 (s, true); ((parseP leaf a.1 a.2 []).1, (parseP leaf a.1 a.2 []).2.2)

theorem takeP_app (l r : List UInt8) (ok : Bool) : takeP l.length (l ++ r, ok) = (l, (r, ok)) := by
  unfold takeP
  rw [if_pos (by simp)]
  simp
theorem beVal_one (x : Nat) (h : x < 256) : beVal (beB 1 x) = x := by
  simp [beVal, beB]
  omega
theorem beVal_two (x : Nat) (h : x < 65536) : beVal (beB 2 x) = x := by
  simp [beVal, beB, List.range_succ]
  omega
theorem beVal_four (x : Nat) (h : x < 4294967296) : beVal (beB 4 x) = x := by
  simp [beVal, beB, List.range_succ]
  omega
theorem numP_app (z x : Nat) (r : List UInt8) (ok : Bool) (h : beVal (beB z x) = x) : numP z (beB z x ++ r, ok) = (x, (r, ok)) := by
  have := takeP_app (beB z x) r ok
  rw [beB_len] at this
  unfold numP
  rw [this, h]
theorem txt_toList (k : ByteArray) : txt k.data.toList = k := by unfold txt; rfl
theorem cellP_app {leaf : Bool} {c : Cl} (hm : mayB leaf c = true) (r : List UInt8) (ok : Bool) : cellP leaf (bytesC leaf c ++ r, ok) = (c, (r, ok)) := by
  obtain ⟨hks, hvs⟩ := mayB_short hm
  obtain ⟨ck, cv, cp, cs⟩ := c
  unfold mayB at hm
  rw [Bool.and_eq_true] at hm
  have h2 := hm.2
  dsimp only at h2 hks hvs
  have h1 : ∀ t, numP 1 (beB 1 ck.size ++ t, ok) = (ck.size, (t, ok)) := fun t => numP_app 1 _ t ok (beVal_one _ (by omega))
  have h3 : ∀ t, takeP ck.size (ck.data.toList ++ t, ok) = (ck.data.toList, (t, ok)) := fun t => by
    have := takeP_app ck.data.toList t ok
    have e : ck.data.toList.length = ck.size := by simp
    rw [e] at this
    exact this
  unfold bytesC cellP
  dsimp only
  rw [List.append_assoc, List.append_assoc, h1, h3]
  dsimp only
  rw [txt_toList]
  cases leaf with
  | true =>
    simp only [if_true, true_and] at h2 ⊢
    by_cases hp : cp = 0
    · rw [if_pos hp] at h2 ⊢
      have h4 := of_decide_eq_true h2
      rw [List.append_assoc, List.append_assoc]
      rw [numP_app 1 0 _ ok (beVal_one _ (by omega))]
      dsimp only
      rw [if_pos rfl, numP_app 1 cv.size _ ok (beVal_one _ (by omega))]
      dsimp only
      have h5 := takeP_app cv.data.toList r ok
      have e : cv.data.toList.length = cv.size := by simp
      rw [e] at h5
      rw [h5]
      dsimp only
      rw [txt_toList, e, hp, h4.2]
    · rw [if_neg hp, Bool.and_eq_true] at h2
      rw [if_neg hp]
      have h4 := of_decide_eq_true h2.1
      have h5 := of_decide_eq_true h2.2
      rw [List.append_assoc, numP_app 1 1 _ ok (beVal_one _ (by omega))]
      dsimp only
      rw [if_neg (by omega), List.append_assoc, numP_app 4 _ _ ok (beVal_four _ (by omega))]
      dsimp only
      rw [numP_app 4 _ _ ok (beVal_four _ (by omega))]
      dsimp only
      rw [Int.toNat_of_nonneg (by omega), Int.toNat_of_nonneg (by omega), empty_eq h4.2.2]
  | false =>
    simp only [Bool.false_eq_true, if_false, false_and] at h2 ⊢
    rw [Bool.and_eq_true] at h2
    have h4 := of_decide_eq_true h2.1
    have h5 := of_decide_eq_true h2.2
    rw [numP_app 4 _ _ ok (beVal_four _ (by omega))]
    dsimp only
    rw [Int.toNat_of_nonneg (by omega), empty_eq h4.2.2, h5]
theorem parseP_app {leaf : Bool} : ∀ (L : List Cl) (r : List UInt8) (acc : List Cl), (∀ c ∈ L, mayB leaf c = true) → parseP leaf L.length (L.flatMap (bytesC leaf) ++ r, true) acc = (acc ++ L, (r, true))
  | [], r, acc, _ => by simp [parseP]
  | c :: l, r, acc, h => by
    rw [List.length_cons, parseP, if_pos rfl, List.flatMap_cons, List.append_assoc, cellP_app (h c (List.mem_cons_self ..))]
    dsimp only
    rw [parseP_app l r _ (fun x hx => h x (List.mem_cons_of_mem _ hx))]
    simp
theorem readP_bytes {leaf : Bool} {L : List Cl} (h : OkL leaf L) (hl : L.length < 65536) : readP leaf (bytesL leaf L) = (L, true) := by
  unfold readP bytesL
  rw [numP_app 2 _ _ true (beVal_two _ hl)]
  dsimp only
  have := parseP_app L [] [] h.1
  rw [List.append_nil] at this
  rw [this]
  simp
theorem bytesL_inj {leaf : Bool} {L K : List Cl} (hL : OkL leaf L) (hK : OkL leaf K) (h1 : L.length < 65536) (h2 : K.length < 65536) (h : bytesL leaf L = bytesL leaf K) : L = K := by
  have e1 := readP_bytes hL h1
  rw [h, readP_bytes hK h2] at e1
  exact (Prod.mk.inj e1).1.symm
theorem ok_small {leaf : Bool} {L : List Cl} (h : sizeL leaf L ≤ 1013) : L.length ≤ 1013 := by
  have : ∀ L : List Cl, L.length ≤ (L.map (sizeC leaf)).sum := fun L => by
    induction L with
    | nil => simp
    | cons c l ih =>
      rw [List.length_cons, List.map_cons, List.sum_cons]
      have : 1 ≤ sizeC leaf c := by unfold sizeC; omega
      omega
  have := this L
  unfold sizeL at h
  omega
/-- How much each step takes. -/
theorem takeP_len (n : Nat) (s : PS) : (takeP n s).2.1.length ≤ s.1.length ∧ ((takeP n s).2.2 = true → s.2 = true ∧ (takeP n s).2.1.length + n = s.1.length) ∧ (takeP n s).1.length ≤ n := by
  unfold takeP
  by_cases h : n ≤ s.1.length
  · rw [if_pos h]
    refine ⟨by simp, fun h2 => ⟨h2, ?_⟩, by simp; omega⟩
    rw [List.length_drop]
    omega
  · rw [if_neg h]
    exact ⟨Nat.zero_le _, (fun h2 => by cases h2), Nat.zero_le _⟩
theorem beVal_lt : ∀ l : List UInt8, beVal l < 256 ^ l.length := fun l => by
  have : ∀ (l : List UInt8) (a : Nat), l.foldl (fun a x => a * 256 + x.toNat) a < (a + 1) * 256 ^ l.length := by
    intro l
    induction l with
    | nil => intro a; simp
    | cons x l ih =>
      intro a
      rw [List.foldl_cons, List.length_cons, Nat.pow_succ]
      have h1 := ih (a * 256 + x.toNat)
      have h2 := x.toNat_lt
      have h3 : (a * 256 + x.toNat + 1) * 256 ^ l.length ≤ ((a + 1) * 256) * 256 ^ l.length := Nat.mul_le_mul_right _ (by omega)
      rw [Nat.mul_assoc, Nat.mul_comm 256] at h3
      omega
  have := this l 0
  simpa [beVal] using this
end Go.Proofs.Ytdgfjaidnedaiaa
