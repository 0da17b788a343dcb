/-
  Pages on lists of bytes: sealed, opened, metas; plain; nothing of the program.
-/
import Derived.Test.YtjklcnknbcmgoaaGreatDoorKB
namespace Go.Proofs.YtjklcnknbcmgoaaGreatDoor.K
open Go Go.RowKit

/-- The check. -/
def h8 (M : List UInt8) : List UInt8 := (List.range 8).map (hashOf M)
theorem h8_len (M : List UInt8) : (h8 M).length = 8 := by simp [h8]
/-- The three bytes ahead. -/
def headP (k : UInt8) (n : Nat) : List UInt8 := [k, UInt8.ofNat (n / 256), UInt8.ofNat n]
theorem headP_len (k : UInt8) (n : Nat) : (headP k n).length = 3 := rfl
def sealL (k : UInt8) (b : List UInt8) : List UInt8 := headP k b.length ++ h8 (headP k b.length ++ b) ++ b ++ List.replicate (1013 - b.length) 0
theorem sealL_len (k : UInt8) {b : List UInt8} (h : b.length ≤ 1013) : (sealL k b).length = 1024 := by
  unfold sealL
  simp only [List.length_append, headP_len, h8_len, List.length_replicate]
  omega
/-- The page. -/
def sealS (k : UInt8) (b : ByteArray) : ByteArray := ⟨(sealL k b.data.toList).toArray⟩
theorem sealS_toList (k : UInt8) (b : ByteArray) : (sealS k b).data.toList = sealL k b.data.toList := rfl
theorem toList_size (b : ByteArray) : b.data.toList.length = b.size := rfl
theorem sealS_size (k : UInt8) {b : ByteArray} (h : b.size ≤ 1013) : (sealS k b).size = 1024 := sealL_len k h
/-- How many bytes its body would have. -/
def szP (p : ByteArray) : Nat := 256 * (p.data.toList.getD 1 0).toNat + (p.data.toList.getD 2 0).toNat
theorem bytes_ext {a b : ByteArray} (h : a.data.toList = b.data.toList) : a = b := by
  obtain ⟨⟨x⟩⟩ := a
  obtain ⟨⟨y⟩⟩ := b
  have : x = y := h
  rw [this]
theorem extract_toList (r : ByteArray) (i j : Nat) : (r.extract i j).data.toList = (r.data.toList.drop i).take (j - i) := by
  rw [ByteArray.data_extract, Array.toList_extract, List.extract_eq_take_drop]
/-- What it is the page of. -/
def openS (p : ByteArray) : Option (UInt8 × ByteArray) :=
  if p.size = 1024 ∧ szP p ≤ 1013 ∧ sealS (p.data.toList.getD 0 0) (p.extract 11 (11 + szP p)) = p then some (p.data.toList.getD 0 0, p.extract 11 (11 + szP p)) else none
theorem ofNat_toNat8 (n : Nat) (h : n < 256) : (UInt8.ofNat n).toNat = n := by
  rw [UInt8.toNat_ofNat']; exact Nat.mod_eq_of_lt h
theorem szP_seal (k : UInt8) {b : ByteArray} (h : b.size ≤ 1013) : szP (sealS k b) = b.size := by
  unfold szP
  rw [sealS_toList]
  unfold sealL headP
  rw [toList_size]
  simp only [List.cons_append, List.getD_eq_getElem?_getD, List.getElem?_cons_succ, List.getElem?_cons_zero, Option.getD_some]
  rw [ofNat_toNat8 _ (by omega), UInt8.toNat_ofNat']
  omega
theorem kind_seal (k : UInt8) (b : ByteArray) : (sealS k b).data.toList.getD 0 0 = k := rfl
theorem body_seal (k : UInt8) (b : ByteArray) : (sealS k b).extract 11 (11 + b.size) = b := by
  apply bytes_ext
  rw [extract_toList, sealS_toList]
  unfold sealL
  have e : ∀ (A B C : List UInt8) (n : Nat), A.length = 11 → B.length = n → ((A ++ B ++ C).drop 11).take (11 + n - 11) = B := by
    intro A B C n hA hB
    rw [List.append_assoc, ← hA, List.drop_left, show A.length + n - A.length = B.length by omega, List.take_left]
  exact e _ _ _ _ (by rw [List.length_append, headP_len, h8_len]) rfl
theorem open_seal (k : UInt8) {b : ByteArray} (h : b.size ≤ 1013) : openS (sealS k b) = some (k, b) := by
  unfold openS
  rw [szP_seal k h, kind_seal, body_seal, if_pos ⟨sealS_size k h, h, rfl⟩]
theorem open_some {p : ByteArray} {k : UInt8} {b : ByteArray} (h : openS p = some (k, b)) : b.size ≤ 1013 ∧ p = sealS k b ∧ p.size = 1024 := by
  unfold openS at h
  split at h
  · next hc =>
    obtain ⟨h1, h2, h3⟩ := hc
    injection h with h
    injection h with e1 e2
    rw [e1, e2] at h3
    refine ⟨?_, h3.symm, h1⟩
    rw [← e2, ByteArray.size_extract]
    omega
  · cases h
theorem seal_inj {k l : UInt8} {a b : ByteArray} (ha : a.size ≤ 1013) (hb : b.size ≤ 1013) (h : sealS k a = sealS l b) : k = l ∧ a = b := by
  have e := open_seal k ha
  rw [h, open_seal l hb] at e
  injection e with e
  injection e with e1 e2
  exact ⟨e1.symm, e2.symm⟩

/-- A number of 8 bytes. -/
def eightL (n : Nat) : List UInt8 := (List.range 8).map fun i => UInt8.ofNat (n / 256 ^ (7 - i))
theorem eightL_len (n : Nat) : (eightL n).length = 8 := by simp [eightL]
/-- What eight bytes from a place on say. -/
def upTo (b : List UInt8) (o : Nat) : Nat → Nat
  | 0 => 0
  | i + 1 => upTo b o i * 256 + (b.getD (o + i) 0).toNat
def numAt (b : List UInt8) (o : Nat) : Nat := upTo b o 8
theorem upTo_lt (b : List UInt8) (o : Nat) : ∀ i, upTo b o i < 256 ^ i
  | 0 => by simp [upTo]
  | i + 1 => by
    have := upTo_lt b o i
    have h2 := (b.getD (o + i) 0).toNat_lt
    rw [upTo, Nat.pow_succ]
    omega
theorem upTo_eight (n : Nat) (hn : n < 256 ^ 8) (b : List UInt8) (o : Nat) (hb : ∀ i, i < 8 → b.getD (o + i) 0 = UInt8.ofNat (n / 256 ^ (7 - i))) : ∀ i, i ≤ 8 → upTo b o i = n / 256 ^ (8 - i)
  | 0, _ => by
    rw [upTo]
    exact (Nat.div_eq_of_lt hn).symm
  | i + 1, h => by
    rw [upTo, upTo_eight n hn b o hb i (by omega), hb i (by omega), UInt8.toNat_ofNat', show 8 - i = (7 - i) + 1 by omega, show 8 - (i + 1) = 7 - i by omega, Nat.pow_succ, ← Nat.div_div_eq_div_mul]
    have := Nat.div_add_mod (n / 256 ^ (7 - i)) 256
    omega
/-- Four numbers. -/
structure M4 where
  tx : Nat
  root : Nat
  ents : Nat
  pgs : Nat
def M4.bodyL (m : M4) : List UInt8 := eightL m.tx ++ eightL m.root ++ eightL m.ents ++ eightL m.pgs
def M4.body (m : M4) : ByteArray := ⟨m.bodyL.toArray⟩
theorem M4.bodyL_len (m : M4) : m.bodyL.length = 32 := by simp [M4.bodyL, eightL_len]
theorem M4.body_size (m : M4) : m.body.size = 32 := m.bodyL_len
def M4.small (m : M4) : Prop := m.tx < 9223372036854775808 ∧ m.root < 9223372036854775808 ∧ m.ents < 9223372036854775808 ∧ m.pgs < 9223372036854775808
def metaS (m : M4) : ByteArray := sealS 77 m.body
theorem metaS_size (m : M4) : (metaS m).size = 1024 := sealS_size 77 (by rw [m.body_size]; omega)
def m4At (b : List UInt8) : M4 := ⟨numAt b 0, numAt b 8, numAt b 16, numAt b 24⟩
/-- The meta of a page. -/
def readS (p : ByteArray) : Option M4 :=
  match openS p with
  | none => none
  | some (k, b) => if k = 77 ∧ b.size = 32 ∧ numAt b.data.toList 0 < 9223372036854775808 ∧ numAt b.data.toList 8 < 9223372036854775808 ∧ numAt b.data.toList 16 < 9223372036854775808 ∧ numAt b.data.toList 24 < 9223372036854775808 then some (m4At b.data.toList) else none
theorem eight_get (n i : Nat) (h : i < 8) : (eightL n).getD i 0 = UInt8.ofNat (n / 256 ^ (7 - i)) := by
  unfold eightL
  rw [List.getD_eq_getElem?_getD, List.getElem?_map, List.getElem?_range h]
  rfl
theorem eight_at {A B : List UInt8} {o n : Nat} (hA : A.length = o) (hn : n < 9223372036854775808) : numAt (A ++ eightL n ++ B) o = n := by
  have := upTo_eight n (Nat.lt_trans hn (by decide)) (A ++ eightL n ++ B) o (fun i hi => by
    rw [List.getD_eq_getElem?_getD, List.append_assoc, List.getElem?_append_right (by omega), List.getElem?_append_left (by rw [eightL_len]; omega), show o + i - A.length = i by omega, ← List.getD_eq_getElem?_getD, eight_get n i hi]) 8 (Nat.le_refl _)
  unfold numAt
  rw [this]
  simp
theorem m4_body (m : M4) (h : m.small) : numAt m.bodyL 0 = m.tx ∧ numAt m.bodyL 8 = m.root ∧ numAt m.bodyL 16 = m.ents ∧ numAt m.bodyL 24 = m.pgs := by
  obtain ⟨h1, h2, h3, h4⟩ := h
  unfold M4.bodyL
  refine ⟨?_, ?_, ?_, ?_⟩
  · have := eight_at (A := []) (B := eightL m.root ++ eightL m.ents ++ eightL m.pgs) (o := 0) rfl h1
    simpa only [List.nil_append, List.append_assoc] using this
  · have := eight_at (A := eightL m.tx) (B := eightL m.ents ++ eightL m.pgs) (o := 8) (eightL_len _) h2
    simpa only [List.nil_append, List.append_assoc] using this
  · have := eight_at (A := eightL m.tx ++ eightL m.root) (B := eightL m.pgs) (o := 16) (by simp [eightL_len]) h3
    simpa only [List.nil_append, List.append_assoc] using this
  · have := eight_at (A := eightL m.tx ++ eightL m.root ++ eightL m.ents) (B := []) (o := 24) (by simp [eightL_len]) h4
    simpa only [List.append_nil, List.append_assoc] using this
theorem readS_of {p : ByteArray} {k : UInt8} {b : ByteArray} (h : openS p = some (k, b)) (h1 : k = 77) (h2 : b.size = 32) (h3 : (m4At b.data.toList).small) : readS p = some (m4At b.data.toList) := by
  unfold readS
  rw [h]
  exact if_pos ⟨h1, h2, h3⟩
theorem readS_no {p : ByteArray} {k : UInt8} {b : ByteArray} (h : openS p = some (k, b)) (h1 : ¬ (k = 77 ∧ b.size = 32 ∧ (m4At b.data.toList).small)) : readS p = none := by
  unfold readS
  rw [h]
  exact if_neg h1
theorem readS_none {p : ByteArray} (h : openS p = none) : readS p = none := by
  unfold readS
  rw [h]
theorem m4_at (m : M4) (h : m.small) : m4At m.bodyL = m := by
  obtain ⟨e1, e2, e3, e4⟩ := m4_body m h
  unfold m4At
  rw [e1, e2, e3, e4]
theorem read_meta (m : M4) (h : m.small) : readS (metaS m) = some m := by
  have hb : m.body.data.toList = m.bodyL := rfl
  have e := readS_of (open_seal 77 (b := m.body) (by rw [m.body_size]; omega)) rfl m.body_size (by rw [hb, m4_at m h]; exact h)
  rw [hb, m4_at m h] at e
  exact e
theorem read_small {p : ByteArray} {m : M4} (h : readS p = some m) : m.small := by
  unfold readS at h
  split at h
  · cases h
  · split at h
    · next hc =>
      injection h with h
      rw [← h]
      exact hc.2.2
    · cases h
/-- Of two metas the one that counts. -/
def newS (a b : ByteArray) : Option (M4 × Nat) :=
  match readS a, readS b with
  | none, none => none
  | some m, none => some (m, 0)
  | none, some n => some (n, 1)
  | some m, some n => if m.tx < n.tx then some (n, 1) else some (m, 0)
/-- Sector by sector. -/
def tornL (a b : List UInt8) (c : Nat → Bool) : List UInt8 :=
  (if c 0 then b else a).take 256 ++ ((if c 1 then b else a).drop 256).take 256 ++ ((if c 2 then b else a).drop 512).take 256 ++ ((if c 3 then b else a).drop 768).take 256
theorem meta_rest (m : M4) : (metaS m).data.toList.drop 256 = List.replicate 768 0 := by
  unfold metaS
  rw [sealS_toList]
  have hl : m.body.data.toList.length = 32 := m.body_size
  unfold sealL
  rw [hl]
  have e : ∀ (A : List UInt8), A.length = 43 → (A ++ List.replicate (1013 - 32) 0).drop 256 = List.replicate 768 0 := by
    intro A hA
    rw [List.drop_append, List.drop_eq_nil_of_le (by omega), hA, List.drop_replicate, List.nil_append]
  exact e _ (by simp only [List.length_append, headP_len, h8_len, hl])
theorem torn_metas (m n : M4) (c : Nat → Bool) : tornL (metaS m).data.toList (metaS n).data.toList c = (if c 0 then metaS n else metaS m).data.toList := by
  have hr : ∀ (q : Bool), (if q then (metaS n).data.toList else (metaS m).data.toList).drop 256 = List.replicate 768 0 := fun q => by
    cases q
    · exact meta_rest m
    · exact meta_rest n
  have hd : ∀ (q : Bool) (k : Nat), (if q then (metaS n).data.toList else (metaS m).data.toList).drop (256 + k) = List.replicate (768 - k) 0 := fun q k => by
    rw [← List.drop_drop, hr, List.drop_replicate]
  unfold tornL
  rw [hr, hd _ 256, hd _ 512, List.append_assoc, List.append_assoc]
  have e : (List.replicate 768 (0 : UInt8)).take 256 ++ ((List.replicate (768 - 256) (0 : UInt8)).take 256 ++ (List.replicate (768 - 512) (0 : UInt8)).take 256) = List.replicate 768 0 := by
    simp only [List.take_replicate, List.replicate_append_replicate]
    rfl
  rw [e, ← hr (c 0), List.take_append_drop]
  split <;> rfl
end Go.Proofs.YtjklcnknbcmgoaaGreatDoor.K
