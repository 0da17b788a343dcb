/-
  The program's Read.
-/
import Derived.Test.YtdgfjaidnedaiaaEParseW
namespace Go.Proofs.Ytdgfjaidnedaiaa
open Go Go.RowKit Go.Lib

theorem num1_lt (s : PS) : (numP 1 s).1 < 256 := by
  have h1 := beVal_lt (takeP 1 s).1
  have h2 := (takeP_len 1 s).2.2
  have h3 : 256 ^ (takeP 1 s).1.length ≤ 256 ^ 1 := Nat.pow_le_pow_right (by omega) h2
  exact Nat.lt_of_lt_of_le h1 h3
theorem cellP_bound (leaf : Bool) (st : PS) : ((cellP leaf st).1.k.size ≤ 255 ∧ (cellP leaf st).1.v.size ≤ 255) ∧ ((cellP leaf st).2.2 = true → (cellP leaf st).2.1.length + 1 ≤ st.1.length) ∧ (cellP leaf st).2.1.length ≤ st.1.length := by
  have a1 := num1_lt st
  have a2 := takeP_len 1 st
  have b1 := takeP_len (numP 1 st).1 (numP 1 st).2
  have hz : (⟨#[]⟩ : ByteArray).size = 0 := rfl
  have ha : (numP 1 st).2 = (takeP 1 st).2 := rfl
  rw [← ha] at a2
  unfold cellP
  dsimp only
  generalize (numP 1 st).2 = s1 at a2 b1
  generalize (numP 1 st).1 = n1 at a1 b1
  generalize takeP n1 s1 = T1 at b1
  obtain ⟨t1, s2⟩ := T1
  dsimp only at b1
  cases leaf with
  | true =>
    simp only [if_true]
    have c2 := takeP_len 1 s2
    have hc : (numP 1 s2).2 = (takeP 1 s2).2 := rfl
    rw [← hc] at c2
    by_cases hc0 : (numP 1 s2).1 = 0
    · rw [if_pos hc0]
      dsimp only
      generalize (numP 1 s2).2 = s3 at c2
      have d1 := num1_lt s3
      have d2 := takeP_len 1 s3
      have hd : (numP 1 s3).2 = (takeP 1 s3).2 := rfl
      rw [← hd] at d2
      generalize (numP 1 s3).2 = s4 at d2
      generalize (numP 1 s3).1 = n4 at d1
      have e1 := takeP_len n4 s4
      rw [txt_size, txt_size]
      refine ⟨⟨by omega, by omega⟩, fun h => ?_, by omega⟩
      have h4 := e1.2.1 h
      have h3 := d2.2.1 h4.1
      have h2 := c2.2.1 h3.1
      have h1 := b1.2.1 h2.1
      have h0 := a2.2.1 h1.1
      omega
    · rw [if_neg hc0]
      dsimp only
      generalize (numP 1 s2).2 = s3 at c2
      have d2 := takeP_len 4 s3
      have hd : (numP 4 s3).2 = (takeP 4 s3).2 := rfl
      rw [← hd] at d2
      generalize (numP 4 s3).2 = s4 at d2
      have e2 := takeP_len 4 s4
      have he : (numP 4 s4).2 = (takeP 4 s4).2 := rfl
      rw [← he] at e2
      rw [txt_size]
      refine ⟨⟨by omega, by rw [hz]; omega⟩, fun h => ?_, by omega⟩
      have h4 := e2.2.1 h
      have h3 := d2.2.1 h4.1
      have h2 := c2.2.1 h3.1
      have h1 := b1.2.1 h2.1
      have h0 := a2.2.1 h1.1
      omega
  | false =>
    simp only [Bool.false_eq_true, if_false]
    have c2 := takeP_len 4 s2
    have hc : (numP 4 s2).2 = (takeP 4 s2).2 := rfl
    rw [← hc] at c2
    rw [txt_size]
    refine ⟨⟨by omega, by rw [hz]; omega⟩, fun h => ?_, by omega⟩
    have h2 := c2.2.1 h
    have h1 := b1.2.1 h2.1
    have h0 := a2.2.1 h1.1
    omega
theorem parse_bound (leaf : Bool) : ∀ (k : Nat) (st : PS) (acc : List Cl), Short 255 acc → (parseP leaf k st acc).1.length ≤ acc.length + st.1.length + 1 ∧ Short 255 (parseP leaf k st acc).1
  | 0, st, acc, h => ⟨by rw [parseP]; dsimp only; omega, by rw [parseP]; exact h⟩
  | k + 1, st, acc, h => by
    by_cases ho : st.2 = true
    · rw [parse_step ho]
      obtain ⟨h1, h2, h3⟩ := cellP_bound leaf st
      have hs : Short 255 (acc ++ [(cellP leaf st).1]) := fun c hc => by
        rcases List.mem_append.1 hc with q | q
        · exact h c q
        · rw [List.mem_singleton.1 q]; exact h1
      generalize (cellP leaf st).1 = c at hs
      generalize (cellP leaf st).2 = st2 at h2 h3
      cases ho2 : st2.2 with
      | true =>
        obtain ⟨i1, i2⟩ := parse_bound leaf k st2 (acc ++ [c]) hs
        have := h2 ho2
        refine ⟨?_, i2⟩
        rw [List.length_append, List.length_singleton] at i1
        omega
      | false =>
        rw [parse_stop (fun q => by rw [ho2] at q; exact absurd q.2 (by decide))]
        refine ⟨?_, hs⟩
        rw [List.length_append, List.length_singleton]
        omega
    · rw [parse_stop (fun q => ho q.2)]
      exact ⟨by dsimp only; omega, h⟩
theorem readP_bound (leaf : Bool) (s : List UInt8) : (readP leaf s).1.length ≤ s.length + 1 ∧ Short 255 (readP leaf s).1 := by
  unfold readP
  dsimp only
  obtain ⟨h1, h2⟩ := parse_bound leaf (numP 2 (s, true)).1 (numP 2 (s, true)).2 [] (fun c hc => by simp at hc)
  refine ⟨?_, h2⟩
  have : (numP 2 (s, true)).2.1.length ≤ s.length := (takeP_len 2 (s, true)).1
  rw [List.length_nil] at h1
  omega
/-- The node whose bytes a text is. -/
def IsOf (leaf : Bool) (s : List UInt8) (L : List Cl) : Prop := OkL leaf L ∧ sizeL leaf L ≤ 1013 ∧ bytesL leaf L = s
theorem IsOf.uniq {leaf : Bool} {s : List UInt8} {L K : List Cl} (h : IsOf leaf s L) (h' : IsOf leaf s K) : L = K :=
  bytesL_inj h.1 h'.1 (by have := ok_small h.2.1; omega) (by have := ok_small h'.2.1; omega) (h.2.2.trans h'.2.2.symm)
theorem IsOf.read {leaf : Bool} {s : List UInt8} {L : List Cl} (h : IsOf leaf s L) : readP leaf s = (L, true) := by
  rw [← h.2.2]
  exact readP_bytes h.1 (by have := ok_small h.2.1; omega)
theorem txt_inj {a b : List UInt8} (h : txt a = txt b) : a = b := by
  have := congrArg (fun x : ByteArray => x.data.toList) h
  simpa [txt] using this
/-- What Read tells. -/
def ReadAns (w w' : World) (leaf : Bool) (s : List UInt8) (e : Ending) : Prop :=
  (∃ L v, IsOf leaf s L ∧ e = .returned (.tuple #[nodeV leaf v, .int .i64 0]) ∧ OwnCells w' w.heap.size v L) ∨ ((¬ ∃ L, IsOf leaf s L) ∧ e = .returned (.tuple #[nodeV false (.slice none 0 0), .int .i64 10]))
set_option maxRecDepth 8000 in
set_option maxHeartbeats 4000000 in
theorem read_any (leaf : Bool) (s : List UInt8) (hs : s.length ≤ 2000) (w : World) : Calls Try.prog 17 #[.bool leaf, .string (txt s)] w fun e w' => ReadAns w w' leaf s e ∧ Below w.heap.size w w' := by
  have hnot := run_notE
  obtain ⟨W0, g4, hW0, hg4, hB0, hb0, a0, a1⟩ := box_node w false (.slice none 0 0)
  have hp := parsed_any leaf s hs W0
  obtain ⟨hlen, hsh⟩ := readP_bound leaf s
  obtain ⟨L, hL⟩ : ∃ L, (readP leaf s).1 = L := ⟨_, rfl⟩
  obtain ⟨ok, hok⟩ : ∃ ok, (readP leaf s).2 = ok := ⟨_, rfl⟩
  have HRP : Hid (readP leaf s = (L, ok)) := by show _ = _; rw [← hL, ← hok]
  rw [hL] at hp hlen hsh
  rw [hok] at hp
  have HK : Hid (Below w.heap.size w W0 ∧ w.heap.size = g4 ∧ Holds W0 g4 24 #[.bool false, .slice none 0 0]) := ⟨hB0, hg4, hb0⟩
  clear hL hok hB0 hb0 a0 a1
  cases ok with
  | false =>
    have HNo : Hid (¬ ∃ L, IsOf leaf s L) := fun ⟨K, hK⟩ => by
      have := hK.read
      rw [HRP.out] at this
      exact absurd (Prod.mk.inj this).2 (by decide)
    go_enter Try.func17, Try.ntmps17
    go_wp2_with fail
    refine hp.mono ?_
    rintro e W1 ⟨v1, rfl, hown1, hB1⟩
    obtain ⟨p1, m1, c1, rfl, hm1, hat1⟩ := shape2 hown1
    have hb1 := below_holds hB1 HK.out.2.2
    have HB1 : Hid (Below w.heap.size w W1) := below_new HK.out.1 hB1
    have f0 : W1.cell? ⟨g4, 0, none⟩ = some (.bool false) := hb1.cell 0
    unfold nodeV
    clear hp hown1 hB1 hm1 hat1
    obtain ⟨W2, g6, hW2, hg6, hB2, hh2, z0, z1⟩ := box_node W1 leaf (.slice p1 m1 c1)
    have hb2 := below_holds hB2 hb1
    have HB2 : Hid (Below w.heap.size w W2) := below_new HB1.out hB2
    clear hB2 hb1 HB1 hh2
    go_wp2_with ((with_reducible show wpList _ _ _ (Oper.mk _ (Op.store _ (Operand.tmp 4) _) _ _ _ _ :: _) _ _); go_must (refine wpList_storeH rfl 24 _ _ rfl g4 #[.bool false, .slice none 0 0] rfl rfl 24 #[.bool false, .slice none 0 0] hb2 infoNode2 rfl (by simp [Value.oneCell']) ?_; intro w5 hH hO hs5))
    refine bodyPost_ret (results_cellE (p := 4) (u := 5) rfl _ w5 g4 24 _ _ rfl hH Try.underlying24 rfl infoNode2) rfl ?_
    exact ⟨.inr ⟨HNo.out, rfl⟩, Only.fresh HB2.out hO (by rw [HK.out.2.1]; exact Nat.le_refl _)⟩
  | true =>
    have HUn : Hid (∀ K, IsOf leaf s K → K = L) := fun K hK => by
      have := hK.read
      rw [HRP.out] at this
      exact (Prod.mk.inj this).1.symm
    have HBd : Hid (L.length ≤ 10000 ∧ Short 10000 L) := ⟨by omega, hsh.mono (by omega)⟩
    clear hlen hsh hs
    go_enter Try.func17, Try.ntmps17
    go_wp2_with fail
    refine hp.mono ?_
    rintro e W1 ⟨v1, rfl, hown1, hB1⟩
    obtain ⟨p1, m1, c1, rfl, hm1, hat1⟩ := shape2 hown1
    have hb1 := below_holds hB1 HK.out.2.2
    have HB1 : Hid (Below w.heap.size w W1) := below_new HK.out.1 hB1
    obtain ⟨W2, g6, hW2, hg6, hB2, hh2, z0, z1⟩ := box_node W1 leaf (.slice p1 m1 c1)
    have HB2 : Hid (Below w.heap.size w W2) := below_new HB1.out hB2
    have hby := bytes_any (leaf := leaf) (hat1.below hB2) HBd.out.1 HBd.out.2
    have hb2' := below_holds hB2 hb1
    have HOW : Hid (OwnCells W2 W0.heap.size (.slice p1 m1 c1) L ∧ g4 < W0.heap.size ∧ w.heap.size ≤ W0.heap.size) := ⟨hown1.below0 hB2, HK.out.2.2.lt, HK.out.1.size⟩
    unfold nodeV at hby ⊢
    clear hp hown1 hB1 hm1 hat1 hB2 hb1 HB1 hh2
    by_cases hgood : OkL leaf L ∧ sizeL leaf L ≤ 1013
    · have hbv : bytV leaf L = .tuple #[.string (txt (bytesL leaf L)), .int .i64 0] := by unfold bytV; rw [if_pos hgood.1, if_pos hgood.2]; rfl
      rw [hbv] at hby
      by_cases heq : bytesL leaf L = s
      · have HIs : Hid (IsOf leaf s L) := ⟨hgood.1, hgood.2, heq⟩
        rw [heq] at hby
        have hss : ((txt s).toList == (txt s).toList) = true := by simp
        clear hgood hbv heq
        go_wp2_with (first
          | (go_at_call 10; refine hby.mono ?_; rintro e W3 ⟨rfl, hB3⟩; replace z0 := keep_cell hB3 z0; replace z1 := keep_cell hB3 z1; have hb2 := below_holds hB3 hb2'; have HB3 : Hid (Below W2.heap.size W2 W3) := hB3; clear hB3)
          | ((with_reducible show wpList _ _ _ (Oper.mk _ (Op.store _ (Operand.tmp 4) _) _ _ _ _ :: _) _ _); go_must (refine wpList_storeH rfl 24 _ _ rfl g4 #[.bool leaf, .slice p1 m1 c1] rfl rfl 24 #[.bool false, .slice none 0 0] hb2 infoNode2 rfl (by simp [Value.oneCell']) ?_; intro w5 hH hO hs5)))
        refine bodyPost_ret (results_cellE (p := 4) (u := 5) rfl _ w5 g4 24 _ _ rfl hH Try.underlying24 rfl infoNode2) rfl ?_
        refine ⟨.inl ⟨L, _, HIs.out, rfl, ?_⟩, Only.fresh (below_new HB2.out HB3.out) hO (by rw [HK.out.2.1]; exact Nat.le_refl _)⟩
        exact (own_only (HOW.out.1.below0 HB3.out) hO HOW.out.2.1).mono HOW.out.2.2
      · have HNo : Hid (¬ ∃ L, IsOf leaf s L) := fun ⟨K, hK⟩ => heq (by have := HUn.out K hK; subst this; exact hK.2.2)
        obtain ⟨B, hB⟩ : ∃ B, txt (bytesL leaf L) = B := ⟨_, rfl⟩
        have hne : (B.toList == (txt s).toList) = false := beq_eq_false_iff_ne.2 fun e => heq (txt_inj (by rw [hB]; exact ba_ext e))
        rw [hB] at hby
        clear hgood hbv heq hB
        go_wp2_with (first
          | (go_at_call 10; refine hby.mono ?_; rintro e W3 ⟨rfl, hB3⟩; replace z0 := keep_cell hB3 z0; replace z1 := keep_cell hB3 z1; have hb2 := below_holds hB3 hb2'; have HB3 : Hid (Below W2.heap.size W2 W3) := hB3; clear hB3)
          | ((with_reducible show wpList _ _ _ (Oper.mk _ (Op.store _ (Operand.tmp 4) _) _ _ _ _ :: _) _ _); go_must (refine wpList_storeH rfl 24 _ _ rfl g4 #[.bool false, .slice none 0 0] rfl rfl 24 #[.bool false, .slice none 0 0] hb2 infoNode2 rfl (by simp [Value.oneCell']) ?_; intro w5 hH hO hs5)))
        refine bodyPost_ret (results_cellE (p := 4) (u := 5) rfl _ w5 g4 24 _ _ rfl hH Try.underlying24 rfl infoNode2) rfl ?_
        exact ⟨.inr ⟨HNo.out, rfl⟩, Only.fresh (below_new HB2.out HB3.out) hO (by rw [HK.out.2.1]; exact Nat.le_refl _)⟩
    · have HNo : Hid (¬ ∃ L, IsOf leaf s L) := fun ⟨K, hK⟩ => hgood (by have := HUn.out K hK; subst this; exact ⟨hK.1, hK.2.1⟩)
      obtain ⟨er, her, hbv⟩ : ∃ er : Int, (er != 0) = true ∧ bytV leaf L = .tuple #[.string ⟨#[]⟩, .int .i64 er] := by
        unfold bytV
        by_cases h1 : OkL leaf L
        · rw [if_pos h1, if_neg fun h => hgood ⟨h1, h⟩]; exact ⟨11, rfl, rfl⟩
        · rw [if_neg h1]; exact ⟨1, rfl, rfl⟩
      rw [hbv] at hby
      clear hgood hbv
      go_wp2_with (first
        | (go_at_call 10; refine hby.mono ?_; rintro e W3 ⟨rfl, hB3⟩; replace z0 := keep_cell hB3 z0; replace z1 := keep_cell hB3 z1; have hb2 := below_holds hB3 hb2'; have HB3 : Hid (Below W2.heap.size W2 W3) := hB3; clear hB3)
        | ((with_reducible show wpList _ _ _ (Oper.mk _ (Op.store _ (Operand.tmp 4) _) _ _ _ _ :: _) _ _); go_must (refine wpList_storeH rfl 24 _ _ rfl g4 #[.bool false, .slice none 0 0] rfl rfl 24 #[.bool false, .slice none 0 0] hb2 infoNode2 rfl (by simp [Value.oneCell']) ?_; intro w5 hH hO hs5)))
      refine bodyPost_ret (results_cellE (p := 4) (u := 5) rfl _ w5 g4 24 _ _ rfl hH Try.underlying24 rfl infoNode2) rfl ?_
      exact ⟨.inr ⟨HNo.out, rfl⟩, Only.fresh (below_new HB2.out HB3.out) hO (by rw [HK.out.2.1]; exact Nat.le_refl _)⟩
end Go.Proofs.Ytdgfjaidnedaiaa
