/-
  texts, List of a row, and a slot as bytes.
-/
import Derived.Test.YtadpopjhhanapaaJEachS
import Derived.Test.YtadpopjhhanapaaJEachL
namespace Go.Proofs.Ytadpopjhhanapaa
open Go Go.RowKit

def one1 (x : ByteArray) : ByteArray := ⟨(bytesL x.data.toList).toArray⟩
def txtL (L : List ByteArray) : List UInt8 := (L.map fun x => bytesL x.data.toList).flatten
theorem cat_one (L : List ByteArray) : cat (L.map one1) = txtL L := by
  unfold cat txtL
  rw [List.map_map]; rfl
theorem bytesL_len (l : List UInt8) : (bytesL l).length ≤ l.length + 9 := by
  unfold bytesL
  split
  · omega
  · have := hd_len 128 l.length
    rw [List.length_append]; omega
theorem listL_len (l : List UInt8) : (listL l).length ≤ l.length + 9 := by
  unfold listL
  have := hd_len 192 l.length
  rw [List.length_append]; omega
theorem txtL_len {m : Nat} : ∀ {L : List ByteArray}, (∀ x ∈ L, x.size ≤ m) → (txtL L).length ≤ L.length * (m + 9)
  | [], _ => by simp [txtL]
  | x :: l, h => by
    have ih := txtL_len (m := m) (L := l) fun y hy => h y (List.mem_cons_of_mem _ hy)
    have h1 := bytesL_len x.data.toList
    have h2 := h x (List.mem_cons_self ..)
    rw [sizeB] at h1
    unfold txtL at ih ⊢
    rw [List.map_cons, List.flatten_cons, List.length_append, List.length_cons, Nat.add_mul, Nat.one_mul]
    omega
theorem cat_len {m : Nat} : ∀ {L : List ByteArray}, (∀ x ∈ L, x.size ≤ m) → (cat L).length ≤ L.length * m
  | [], _ => by simp [cat]
  | x :: l, h => by
    have ih := cat_len (m := m) (L := l) fun y hy => h y (List.mem_cons_of_mem _ hy)
    have h2 := h x (List.mem_cons_self ..)
    unfold cat at ih ⊢
    rw [List.map_cons, List.flatten_cons, List.length_append, List.length_cons, Nat.add_mul, Nat.one_mul, sizeB]
    omega
section
variable {w : World} {v : Value} {L : List ByteArray}
theorem join_s (hv : StrsAt w v L) (hl : L.length ≤ 100000) (hlen : (cat L).length ≤ 100000000) : Calls Try.prog 56 #[v, .string ⟨#[]⟩] w fun e w' => e = .returned (.string ⟨(cat L).toArray⟩) ∧ Below w.heap.size w w' := by
  rcases hv with ⟨rfl, p, c, rfl⟩ | ⟨b, o, c, rfl, h2, h3⟩
  · refine (Try.strings_Join_none p c ⟨#[]⟩ w).mono ?_
    rintro e w' ⟨rfl, rfl⟩
    exact ⟨rfl, Below.refl _ _⟩
  · cases L with
    | nil =>
      refine (Try.strings_Join_none _ c ⟨#[]⟩ w).mono ?_
      rintro e w' ⟨rfl, rfl⟩
      exact ⟨rfl, Below.refl _ _⟩
    | cons x l =>
      have hbk : b < w.heap.size := World.block_lt_of_cell? w _ (h3 0 x rfl)
      have hse : (⟨#[]⟩ : ByteArray).data.toList = [] := rfl
      have := Try.strings_Join b o c (x :: l) ⟨#[]⟩ w (fun j y hy => h3 j y hy) hbk (by omega) h2 (by rw [hse, join_cat]; omega)
      rw [hse, join_cat] at this
      exact this
theorem list_s (hv : StrsAt w v L) (hl : L.length ≤ 100000) (hlen : (cat L).length ≤ 100000000) : Calls Try.prog 35 #[v] w fun e w' => e = .returned (.string ⟨(listL (cat L)).toArray⟩) ∧ Below w.heap.size w w' := by
  rcases hv with ⟨rfl, p, c, rfl⟩ | ⟨b, o, c, rfl, h2, h3⟩
  · exact list_none p c w
  · cases L with
    | nil => exact list_none _ c w
    | cons x l =>
      have hbk : b < w.heap.size := World.block_lt_of_cell? w _ (h3 0 x rfl)
      exact list_any b o c (x :: l) w (fun j y hy => h3 j y hy) hbk hl h2 hlen
theorem texts_any (hv : StrsAt w v L) (hl : L.length ≤ 1000) (hs : ∀ x ∈ L, x.size ≤ 10000) : Calls Try.prog 36 #[v] w fun e w' => e = .returned (.string ⟨(txtL L).toArray⟩) ∧ Below w.heap.size w w' := by
  obtain ⟨p, c, rfl⟩ := hv.shape
  have he := eachS_any hv (by omega) one1 (fun x hx W hW => bytes_any x W (by have := hs x hx; omega))
  have HE : Hid (Calls Try.prog 58 #[.slice p L.length c, .func (.func 59) #[] #[]] w fun e w' => ∃ v', e = .returned v' ∧ OwnS w' w.heap.size v' (L.map one1) ∧ Below w.heap.size w w') := he
  have HL : Hid ((L.map one1).length ≤ 100000 ∧ (cat (L.map one1)).length ≤ 100000000) := by
    refine ⟨by rw [List.length_map]; omega, ?_⟩
    rw [cat_one]
    have := txtL_len hs
    have h2 : L.length * (10000 + 9) ≤ 1000 * (10000 + 9) := Nat.mul_le_mul_right _ hl
    omega
  have HC : Hid (cat (L.map one1) = txtL L) := cat_one L
  clear he hs hv
  generalize L.map one1 = K at HE HL HC
  generalize L.length = n at *
  go_enter Try.func36, Try.ntmps36
  go_wp2_with (first
    | (go_at_call 58; refine HE.out.mono ?_; rintro e w1 ⟨v1, rfl, hv1, hB1⟩; have hj := join_s hv1.at HL.out.1 HL.out.2; rw [HC.out] at hj; obtain ⟨p1, c1, rfl⟩ := hv1.at.shape; clear hv1)
    | (go_at_call 56; refine hj.mono ?_; rintro e w2 ⟨rfl, hB2⟩)
    | fail)
  go_ret
  exact ⟨rfl, below_new hB1 hB2⟩
end
/-- Two texts in a new block. -/
theorem strs_new (w : World) (ty : TypeId) (L : List ByteArray) (c : Nat) (hc : L.length ≤ c) : StrsAt (w.alloc (.cells (L.map Value.string).toArray ty)) (.slice (some ⟨w.heap.size, 0, none⟩) L.length c) L := by
  refine .inr ⟨_, 0, c, rfl, hc, fun i x hx => ?_⟩
  rw [(Holds.new w ty (L.map Value.string).toArray).cell, Nat.zero_add]
  simp [hx]
def encS (x : Sl) : List UInt8 := listL (txtL [x.k, x.v])
def encSB (x : Sl) : ByteArray := ⟨(encS x).toArray⟩
def Small (x : Sl) : Prop := x.k.size ≤ 100 ∧ x.v.size ≤ 100
theorem encS_len {x : Sl} (h : Small x) : (encS x).length ≤ 227 := by
  unfold encS
  have h1 := listL_len (txtL [x.k, x.v])
  have h2 := txtL_len (m := 100) (L := [x.k, x.v]) (by
    intro y hy
    rcases List.mem_cons.1 hy with rfl | hy
    · exact h.1
    · rw [List.mem_singleton.1 hy]; exact h.2)
  simp only [List.length_cons, List.length_nil] at h2
  omega
set_option maxRecDepth 8000 in
theorem senc_any {x : Sl} (hx : Small x) (w : World) : Calls Try.prog 62 #[sla x] w fun e w' => e = .returned (.string (encSB x)) ∧ Below w.heap.size w w' := by
  obtain ⟨W0, g, hW0, hg, hB0, h0, h1⟩ := box_slot w x
  have HB : Hid (Below w.heap.size w W0) := hB0
  have ht := fun W (ty : TypeId) => texts_any (strs_new W ty [x.k, x.v] 2 (Nat.le_refl _)) (by simp) (by
    intro y hy
    rcases List.mem_cons.1 hy with rfl | hy
    · exact Nat.le_trans hx.1 (by decide)
    · rw [List.mem_singleton.1 hy]; exact Nat.le_trans hx.2 (by decide))
  have hlen : (txtL [x.k, x.v]).length ≤ 100000000 := by have := encS_len hx; unfold encS listL at this; rw [List.length_append] at this; omega
  have hl := fun W (ty : TypeId) => list_s (strs_new W ty [⟨(txtL [x.k, x.v]).toArray⟩] 1 (Nat.le_refl _)) (by simp) (by simp [cat]; simpa using hlen)
  have HS : Hid (encSB x = ⟨(listL (cat [⟨(txtL [x.k, x.v]).toArray⟩])).toArray⟩) := by
    show _ = _
    unfold encSB encS cat
    simp
  rw [HS.out]
  clear hB0 hlen
  generalize listL (cat [⟨(txtL [x.k, x.v]).toArray⟩]) = R at *
  generalize txtL [x.k, x.v] = T at *
  obtain ⟨xk, xv⟩ := x
  unfold sla
  dsimp only at *
  have HT : Hid (∀ (W : World) (ty : TypeId), Calls Try.prog 36 #[.slice (some ⟨W.heap.size, 0, none⟩) 2 2] (W.alloc (.cells #[.string xk, .string xv] ty)) fun e w' => e = .returned (.string ⟨T.toArray⟩) ∧ Below (W.alloc (.cells #[.string xk, .string xv] ty)).heap.size (W.alloc (.cells #[.string xk, .string xv] ty)) w') := ht
  have HL : Hid (∀ (W : World) (ty : TypeId), Calls Try.prog 35 #[.slice (some ⟨W.heap.size, 0, none⟩) 1 1] (W.alloc (.cells #[.string ⟨T.toArray⟩] ty)) fun e w' => e = .returned (.string ⟨R.toArray⟩) ∧ Below (W.alloc (.cells #[.string ⟨T.toArray⟩] ty)).heap.size (W.alloc (.cells #[.string ⟨T.toArray⟩] ty)) w') := hl
  clear ht hl HS
  go_enter Try.func62, Try.ntmps62
  go_wp2_with (first
    | (go_at_call 36; refine (HT.out _ _).mono ?_; rintro e w1 ⟨rfl, hB1⟩)
    | (go_at_call 35; refine (HL.out _ _).mono ?_; rintro e w2 ⟨rfl, hB2⟩)
    | fail)
  go_ret
  exact ⟨rfl, below_new HB.out (below_new (one_alloc hB1) (one_alloc hB2))⟩
end Go.Proofs.Ytadpopjhhanapaa
