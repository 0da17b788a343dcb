/-
  TrieLong's walk.
-/
import Derived.Test.YtjdhdeffiigpbaaDoorTLongP
namespace Go.Proofs.YtjdhdeffiigpbaaDoor
open Go Go.RowKit Nb

/-- What TrieLong's walk has of its pairs, whatever the world. -/
structure LongIs (w : World) (g o c m p n0 n1 : Nat) (a1 a2 b1 b2 la A B ta tb ra rb bt P xt nd : ByteArray) (on tw : Array Value) (cs0 cs1 cs2 : Array Value) : Prop where
  row : ∀ W, Below w.heap.size w W → PairsAt W (.slice (some ⟨g, o, none⟩) 2 c) [(a1, a2), (b1, b2)] ∧ K.Tabs W
  sizes : a1.size = m ∧ b1.size = m ∧ p < m ∧ m ≤ 64
  nibA : ∃ h : p < a1.size, (a1[p]).toNat = n0
  nibB : ∃ h : p < b1.size, (b1[p]).toNat = n1
  nibs : n0 < 16 ∧ n1 < 16
  root1 : ∀ W, K.Tabs W → Calls Tryd.prog 24 #[.slice (some ⟨W.heap.size, 0, none⟩) 1 1] (W.alloc (.cells #[.string a1, .string a2] 33)) fun e w' => e = .returned (.tuple #[.agg on, .int .i64 0]) ∧ Below W.heap.size W w'
  leaf : ∀ W, Calls Tryd.prog 8 #[.string a1, .string a2] W fun e w' => e = .returned (.tuple #[.string la, .int .i64 0]) ∧ Below W.heap.size W w'
  sum1 : ∀ W, Calls Tryd.prog 25 #[.string la] W fun e w' => e = .returned (.agg on) ∧ Below W.heap.size W w'
  prefx : ∀ W, Calls Tryd.prog 19 #[.string a1, .string b1] W fun e w' => e = .returned (.int .i64 (p : Nat)) ∧ Below W.heap.size W w'
  sliceA : ∀ W : World, (Instr.sliceAt 9 (.string a1) (some (.int .i64 ((p + 1 : Nat) : Int))) none none).run Tryd.prog W = .ok (.string A) W
  sliceB : ∀ W : World, (Instr.sliceAt 9 (.string b1) (some (.int .i64 ((p + 1 : Nat) : Int))) none none).run Tryd.prog W = .ok (.string B) W
  leafA : ∀ W, Calls Tryd.prog 8 #[.string A, .string a2] W fun e w' => e = .returned (.tuple #[.string ta, .int .i64 0]) ∧ Below W.heap.size W w'
  leafB : ∀ W, Calls Tryd.prog 8 #[.string B, .string b2] W fun e w' => e = .returned (.tuple #[.string tb, .int .i64 0]) ∧ Below W.heap.size W w'
  refA : ∀ W, K.Tabs W → Calls Tryd.prog 14 #[.string ta] W fun e w' => e = .returned (.string ra) ∧ Below W.heap.size W w'
  refB : ∀ W, K.Tabs W → Calls Tryd.prog 14 #[.string tb] W fun e w' => e = .returned (.string rb) ∧ Below W.heap.size W w'
  refs : cs0 = strA 16 (fun _ => ⟨#[]⟩) ∧ cs1 = cs0.setIfInBounds n0 (.string ra) ∧ cs2 = cs1.setIfInBounds n1 (.string rb) ∧ cs0.size = 16 ∧ cs1.size = 16 ∧ cs2.size = 16
  branch : ∀ W, Calls Tryd.prog 12 #[.agg cs2] W fun e w' => e = .returned (.string bt) ∧ Below W.heap.size W w'
  cut : ∀ W : World, (Instr.sliceAt 9 (.string a1) none (some (.int .i64 (p : Int))) none).run Tryd.prog W = .ok (.string P) W
  refX : ∀ W, K.Tabs W → Calls Tryd.prog 14 #[.string bt] W fun e w' => e = .returned (.string xt) ∧ Below W.heap.size W w'
  ext : 0 < p → ∀ W, Calls Tryd.prog 10 #[.string P, .string xt] W fun e w' => e = .returned (.tuple #[.string nd, .int .i64 0]) ∧ Below W.heap.size W w'
  noExt : ¬ 0 < p → bt = nd
  root2 : ∀ W, Below w.heap.size w W → Calls Tryd.prog 24 #[.slice (some ⟨g, o, none⟩) 2 c] W fun e w' => e = .returned (.tuple #[.agg tw, .int .i64 0]) ∧ Below W.heap.size W w'
  sum2 : ∀ W, Calls Tryd.prog 25 #[.string nd] W fun e w' => e = .returned (.agg tw) ∧ Below W.heap.size W w'
  eq1 : ∀ W : World, (Op.equalIn 10000 40 (.agg on) (.agg on)).run Tryd.prog W = .ok true W
  eq2 : ∀ W : World, (Op.equalIn 10000 40 (.agg tw) (.agg tw)).run Tryd.prog W = .ok true W
  sums : on.size = 32 ∧ tw.size = 32 ∧ on.all (·.oneCell') = true ∧ tw.all (·.oneCell') = true
theorem may_sub {m : Nat} {a b : Pr} (h : May m [a, b]) : May m [a] :=
  ⟨fun p hp => h.len p (by simp at hp; simp [hp]), fun p hp => h.nib p (by simp at hp; simp [hp]), fun p hp => h.val p (by simp at hp; simp [hp]), List.pairwise_singleton _ _⟩
theorem extL_size {p r : List UInt8} : ((⟨(extL p r).toArray⟩ : ByteArray)).size = (extL p r).length := rfl
theorem key_data (x y : ByteArray) : kb (x, y) = x.data.toList := rfl
theorem leaf_of (x v : ByteArray) (X : List UInt8) (hx : x.data.toList = X) (hr : rightL X = true) (hl : x.size ≤ 1000000) (hv : v.size ≤ 1000000) (W : World) :
    Calls Tryd.prog 8 #[.string x, .string v] W fun e w' => e = .returned (.tuple #[.string ⟨(leafL X v.data.toList).toArray⟩, .int .i64 0]) ∧ Below W.heap.size W w' := by
  have h := leaf_any x v W hl hv
  unfold leafS okE at h
  rw [hx, hr, if_pos rfl, if_pos rfl] at h
  exact h
theorem nib_of {x v : ByteArray} {p : Nat} (h : p < x.size) : (x[p]).toNat = nibAt p (x, v) := by
  unfold nibAt
  rw [key_data, List.getD_eq_getElem?_getD, List.getElem?_eq_getElem (by rw [sizeB]; exact h)]
  rw [getB x p h]; rfl
theorem root_on (L : List Pr) (W : World) (v : Value) (h : PairsAt W v L) (hT : K.Tabs W) (hm : mayL L) (h0 : L ≠ []) (hl : L.length ≤ 100000) (hk : ∀ p ∈ L, p.1.size ≤ 100000) (hv : ∀ p ∈ L, p.2.size ≤ 1000000) :
    Calls Tryd.prog 24 #[v] W fun e w' => e = .returned (.tuple #[.agg (K.bytesA 32 (K.hashOf (node 0 L))), .int .i64 0]) ∧ Below W.heap.size W w' := by
  refine (root_any v L W h hT hl hk hv).mono fun e w' hr => ?_
  obtain ⟨h1 | h1, hB⟩ := hr
  · refine ⟨?_, hB⟩
    rw [h1.2]; unfold rootF; rw [if_neg h0]
  · exact absurd hm h1.1
theorem long_is {w : World} {g o c m : Nat} {a1 a2 b1 b2 : ByteArray} (hP : PairsAt w (.slice (some ⟨g, o, none⟩) 2 c) [(a1, a2), (b1, b2)]) (hT : K.Tabs w) (hM : Made m [(a1, a2), (b1, b2)]) :
    ∃ p n0 n1 la A B ta tb ra rb bt P xt nd on tw cs0 cs1 cs2, LongIs w g o c m p n0 n1 a1 a2 b1 b2 la A B ta tb ra rb bt P xt nd on tw cs0 cs1 cs2 := by
  have hma := hM.may.len (a1, a2) (by simp)
  have hmb := hM.may.len (b1, b2) (by simp)
  have hra := hM.may.nib (a1, a2) (by simp)
  have hrb := hM.may.nib (b1, b2) (by simp)
  have hva : a2.size ≤ 100 := hM.vals (a1, a2) (by simp)
  have hvb : b2.size ≤ 100 := hM.vals (b1, b2) (by simp)
  have hm64 := hM.most
  obtain ⟨hlt, hlcp, hne⟩ := two_facts hM.may
  have hnode := node_two hM.may
  obtain ⟨p, hp⟩ : ∃ p, pre (kb (a1, a2)) (kb (b1, b2)) = p := ⟨_, rfl⟩
  rw [hp] at hlt hlcp hne hnode
  have hsa : a1.size = m := hma
  have hsb : b1.size = m := hmb
  have n0 := nibAt_lt hM.may (q := p) (p := (a1, a2)) (by simp)
  have n1 := nibAt_lt hM.may (q := p) (p := (b1, b2)) (by simp)
  have hX : (a1.extract (p + 1) a1.size).data.toList = (kb (a1, a2)).drop (p + 1) := by
    rw [extract_data, List.take_of_length_le (by rw [sizeB]; exact Nat.le_refl _)]; rfl
  have hY : (b1.extract (p + 1) b1.size).data.toList = (kb (b1, b2)).drop (p + 1) := by
    rw [extract_data, List.take_of_length_le (by rw [sizeB]; exact Nat.le_refl _)]; rfl
  have hXs : (a1.extract (p + 1) a1.size).size ≤ 64 := by rw [← sizeB, hX, List.length_drop]; omega
  have hYs : (b1.extract (p + 1) b1.size).size ≤ 64 := by rw [← sizeB, hY, List.length_drop]; omega
  have hPd : (a1.extract 0 p).data.toList = (kb (a1, a2)).take p := by
    rw [extract_data]; rfl
  have hPs : (a1.extract 0 p).size ≤ 64 := by rw [← sizeB, hPd, List.length_take]; omega
  have hla := leafL_len a1.data.toList a2.data.toList
  have hl1 : a1.data.toList.length = m := hma
  have hl2 : a2.data.toList.length ≤ 100 := hva
  have hl3 : b2.data.toList.length ≤ 100 := hvb
  have hlfa : (lfT p (a1, a2)).size ≤ 200 := by
    have := leafL_len ((kb (a1, a2)).drop (p + 1)) (vb (a1, a2))
    have e : (lfT p (a1, a2)).size = (leafL ((kb (a1, a2)).drop (p + 1)) (vb (a1, a2))).length := rfl
    have e2 : (vb (a1, a2)).length ≤ 100 := hva
    rw [e]; rw [List.length_drop] at this; omega
  have hlfb : (lfT p (b1, b2)).size ≤ 200 := by
    have := leafL_len ((kb (b1, b2)).drop (p + 1)) (vb (b1, b2))
    have e : (lfT p (b1, b2)).size = (leafL ((kb (b1, b2)).drop (p + 1)) (vb (b1, b2))).length := rfl
    have e2 : (vb (b1, b2)).length ≤ 100 := hvb
    rw [e]; rw [List.length_drop] at this; omega
  have hbl : (brL fun c => (longR p (a1, a2) (b1, b2) 2 c).data.toList).length ≤ 666 := brL_len 41 _ (fun c _ => longR_size p _ _ 2 c) (by omega)
  obtain ⟨bl, hbe⟩ : ∃ bl, (brL fun c => (longR p (a1, a2) (b1, b2) 2 c).data.toList) = bl := ⟨_, rfl⟩
  have hbr := fun W => branch_any (longR p (a1, a2) (b1, b2) 2) W (fun c _ => by have := longR_size p (a1, a2) (b1, b2) 2 c; omega)
  rw [hbe] at hbl hnode hbr
  have hxl := refN_len bl
  have hel := extL_len ((kb (a1, a2)).take p) (refN bl)
  have hndl : (node 0 [(a1, a2), (b1, b2)]).length ≤ 3000 := by
    rw [hnode]
    split
    · rw [List.length_take] at hel; omega
    · omega
  have hrw : ∀ W, Below w.heap.size w W → PairsAt W (.slice (some ⟨g, o, none⟩) 2 c) [(a1, a2), (b1, b2)] ∧ K.Tabs W := fun W hW => ⟨hP.below hW, hT.below hW⟩
  have hmem : ∀ x ∈ [((a1, a2) : Pr), (b1, b2)], x.1.size ≤ 100000 ∧ x.2.size ≤ 1000000 := fun x hx => by
    simp only [List.mem_cons, List.not_mem_nil, or_false] at hx
    rcases hx with rfl | rfl
    · exact ⟨by show a1.size ≤ _; omega, by show a2.size ≤ _; omega⟩
    · exact ⟨by show b1.size ≤ _; omega, by show b2.size ≤ _; omega⟩
  refine ⟨p, nibAt p (a1, a2), nibAt p (b1, b2), ⟨(leafL a1.data.toList a2.data.toList).toArray⟩, a1.extract (p + 1) a1.size, b1.extract (p + 1) b1.size, lfT p (a1, a2), lfT p (b1, b2), refT p (a1, a2), refT p (b1, b2), ⟨bl.toArray⟩, a1.extract 0 p, ⟨(refN bl).toArray⟩, ⟨(node 0 [(a1, a2), (b1, b2)]).toArray⟩, K.bytesA 32 (K.hashOf (leafL a1.data.toList a2.data.toList)), K.bytesA 32 (K.hashOf (node 0 [(a1, a2), (b1, b2)])), strA 16 (longR p (a1, a2) (b1, b2) 0), strA 16 (longR p (a1, a2) (b1, b2) 1), strA 16 (longR p (a1, a2) (b1, b2) 2), ?_⟩
  refine ⟨hrw, ⟨hsa, hsb, hlt, hm64⟩, ⟨by omega, nib_of _⟩, ⟨by omega, nib_of _⟩, ⟨n0, n1⟩, ?_, ?_, ?_, ?_, ?_, ?_, ?_, ?_, ?_, ?_, ?_, hbr, ?_, ?_, ?_, ?_, ?_, ?_, ?_, ?_, ?_⟩
  · intro W hTW
    have hPW : PairsAt (W.alloc (.cells #[.string a1, .string a2] 33)) (.slice (some ⟨W.heap.size, 0, none⟩) 1 1) [(a1, a2)] := .inr ⟨W.heap.size, 0, 1, rfl, Nat.le_refl _, fun i x hx => by
      match i, hx with
      | 0, hx => obtain rfl := Option.some.inj hx; exact pair_new W a1 a2⟩
    have hB0 : Below W.heap.size W (W.alloc (.cells #[.string a1, .string a2] 33)) := (Below.refl _ _).alloc (Nat.le_refl _) _
    have := root_on [(a1, a2)] _ _ hPW (hTW.below hB0) ⟨m, may_sub hM.may⟩ (by simp) (by simp) (fun x hx => (hmem x (by simp at hx; simp [hx])).1) (fun x hx => (hmem x (by simp at hx; simp [hx])).2)
    rw [node_one, List.drop_zero] at this
    exact this.mono fun e w' ⟨he, hB⟩ => ⟨he, alloc_below hB⟩
  · exact fun W => leaf_of a1 a2 _ rfl hra (by omega) (by omega) W
  · intro W
    exact K.refSum_any ⟨(leafL a1.data.toList a2.data.toList).toArray⟩ W (by show (leafL a1.data.toList a2.data.toList).length ≤ _; omega)
  · intro W
    refine (refPrefix_drew a1 b1 W (by omega) (by omega)).mono fun e w' ⟨he, n, hn⟩ => ⟨?_, ?_⟩
    · rw [he, ← hp]; rfl
    · rw [hn]
      have hb := Below.refl W.heap.size W
      exact ⟨hb.os, hb.tape, hb.output, hb.size, hb.block⟩
  · exact fun W => slice_from a1 (p + 1) (by omega) W
  · exact fun W => slice_from b1 (p + 1) (by omega) W
  · exact fun W => leaf_of _ a2 _ hX (right_drop _ _ hra) (by omega) (by omega) W
  · exact fun W => leaf_of _ b2 _ hY (right_drop _ _ hrb) (by omega) (by omega) W
  · exact fun W hTW => ref_any (lfT p (a1, a2)) W hTW (by omega)
  · exact fun W hTW => ref_any (lfT p (b1, b2)) W hTW (by omega)
  · exact ⟨longR_zero p _ _, longR_a p _ _ n0, longR_b p _ _ n1, strA_size _ _, strA_size _ _, strA_size _ _⟩
  · exact fun W => slice_cut a1 p (by omega) W
  · exact fun W hTW => ref_any ⟨bl.toArray⟩ W hTW (by show bl.length ≤ _; omega)
  · intro hp0 W
    have h := ext_any (a1.extract 0 p) ⟨(refN bl).toArray⟩ W (by omega) (by show (refN bl).length ≤ _; omega)
    unfold extS okE at h
    rw [hPd, right_take _ _ hra, if_pos rfl, if_pos rfl] at h
    rw [hnode, if_pos hp0]
    exact h
  · intro hp0
    rw [hnode, if_neg hp0]
  · intro W hW
    exact root_on _ W _ (hrw W hW).1 (hrw W hW).2 ⟨m, hM.may⟩ (by simp) (by simp) (fun x hx => (hmem x hx).1) (fun x hx => (hmem x hx).2)
  · exact fun W => K.refSum_any ⟨(node 0 [(a1, a2), (b1, b2)]).toArray⟩ W hndl
  · exact fun W => K.eql_sums_same W _
  · exact fun W => K.eql_sums_same W _
  · exact ⟨K.bytesA_size 32 _, K.bytesA_size 32 _, K.bytesA_one 32 _, K.bytesA_one 32 _⟩
end Go.Proofs.YtjdhdeffiigpbaaDoor
