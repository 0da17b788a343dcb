/-
  Texts of this claim, put together.
-/
import Derived.Test.YtjdhdeffiigpbaaDoorTLen
import Derived.Test.YtjdhdeffiigpbaaDoorTRefW
import Derived.Test.YtjdhdeffiigpbaaDoorNOrd
import Derived.Test.YtjdhdeffiigpbaaDoorTMadeW
import Derived.Test.YtjdhdeffiigpbaaDoorTAwake
/-
  What keys have in common ahead is nothing to the node from behind it (pure).
-/
namespace Go.Proofs.YtjdhdeffiigpbaaDoor
open Go Nb

def shiftP (a : ByteArray) (p : Pr) : Pr := (a ++ p.1, p.2)
def shift (a : ByteArray) (L : List Pr) : List Pr := L.map (shiftP a)
theorem kb_shift (a : ByteArray) (p : Pr) : kb (shiftP a p) = a.data.toList ++ kb p := by
  show (a ++ p.1).data.toList = _
  rw [strcat]; rfl
theorem vb_shift (a : ByteArray) (p : Pr) : vb (shiftP a p) = vb p := rfl
theorem shift_nil {a : ByteArray} {L : List Pr} : shift a L = [] ↔ L = [] := by unfold shift; simp
theorem right_app (x y : List UInt8) (hx : rightL x = true) (hy : rightL y = true) : rightL (x ++ y) = true := by
  unfold rightL at *; rw [List.all_append, hx, hy]; rfl
theorem May.shift {a : ByteArray} {m : Nat} {L : List Pr} (h : May m L) (ha : rightL a.data.toList = true) : May (a.size + m) (shift a L) := by
  refine ⟨?_, ?_, ?_, ?_⟩
  · intro p hp
    obtain ⟨x, hx, rfl⟩ := List.mem_map.1 hp
    rw [kb_shift, List.length_append, h.len x hx]; rfl
  · intro p hp
    obtain ⟨x, hx, rfl⟩ := List.mem_map.1 hp
    rw [kb_shift]; exact right_app _ _ ha (h.nib x hx)
  · intro p hp
    obtain ⟨x, hx, rfl⟩ := List.mem_map.1 hp
    exact h.val x hx
  · exact List.pairwise_map.2 (h.apart.imp fun {x y} hne e => hne (by rw [kb_shift, kb_shift] at e; exact List.append_cancel_left e))
theorem take_shift {x y : List UInt8} (a : List UInt8) (n : Nat) (h : x.take n = y.take n) : (a ++ x).take (a.length + n) = (a ++ y).take (a.length + n) := by
  rw [List.take_length_add_append, List.take_length_add_append, h]
theorem Lcp.shift {a : ByteArray} {L : List Pr} {q : Nat} (h : Lcp L q) : Lcp (shift a L) (a.size + q) := by
  refine ⟨?_, ?_⟩
  · intro x hx y hy
    obtain ⟨u, hu, rfl⟩ := List.mem_map.1 hx
    obtain ⟨v, hv, rfl⟩ := List.mem_map.1 hy
    rw [kb_shift, kb_shift]
    exact take_shift _ q (h.alike u hu v hv)
  · obtain ⟨x, hx, y, hy, hne⟩ := h.differ
    refine ⟨_, List.mem_map.2 ⟨x, hx, rfl⟩, _, List.mem_map.2 ⟨y, hy, rfl⟩, ?_⟩
    have e : a.size = a.data.toList.length := rfl
    rw [kb_shift, kb_shift, e, List.getElem?_append_right (by omega), List.getElem?_append_right (by omega), Nat.add_sub_cancel_left]
    exact hne
theorem nibAt_shift (a : ByteArray) (q : Nat) (p : Pr) : nibAt (a.size + q) (shiftP a p) = nibAt q p := by
  unfold nibAt
  have e : a.size = a.data.toList.length := rfl
  rw [kb_shift, List.getD_eq_getElem?_getD, List.getD_eq_getElem?_getD, e, List.getElem?_append_right (by omega), Nat.add_sub_cancel_left]
theorem atN_shift (a : ByteArray) (q c : Nat) (L : List Pr) : atN (a.size + q) c (shift a L) = shift a (atN q c L) := by
  unfold atN shift
  rw [List.filter_map]
  congr 1
  refine List.filter_congr fun x _ => ?_
  show (nibAt (a.size + q) (shiftP a x) == c) = _
  rw [nibAt_shift]
theorem node_shift {a : ByteArray} (ha : rightL a.data.toList = true) : ∀ (n : Nat) (L : List Pr) (m d : Nat), L.length < n → May m L → node (a.size + d) (shift a L) = node d L
  | 0, _, _, _, h, _ => by omega
  | n + 1, L, m, d, hn, hm => by
    rcases may_cases hm with rfl | ⟨p, rfl⟩ | ⟨q, hq⟩
    · show node (a.size + d) [] = _
      rw [node, node]
    · show node (a.size + d) [shiftP a p] = _
      rw [node_one, node_one, kb_shift, vb_shift]
      have e : a.size = a.data.toList.length := rfl
      rw [e, List.drop_length_add_append]
    · obtain ⟨p, hp⟩ : ∃ p, p ∈ L := by
        obtain ⟨x, hx, _⟩ := hq.differ
        exact ⟨x, hx⟩
      rw [node_many hm hq hp, node_many (hm.shift ha) (hq.shift (a := a)) (List.mem_map.2 ⟨p, hp, rfl⟩)]
      have hk : brL (kids (a.size + q) (shift a L)) = brL (kids q L) := brL_congr fun c _ => by
        unfold kids
        rw [atN_shift]
        by_cases h0 : atN q c L = []
        · rw [if_pos h0, if_pos (shift_nil.2 h0)]
        · rw [if_neg h0, if_neg (fun e => h0 (shift_nil.1 e))]
          have := node_shift ha n (atN q c L) m (q + 1) (by have := atN_less hm hq c; omega) (hm.filter _)
          rw [← this]; rfl
      rw [hk, kb_shift]
      have e : a.size = a.data.toList.length := rfl
      by_cases hd : d < q
      · rw [if_pos hd, if_pos (by omega), e, List.take_length_add_append, List.drop_length_add_append]
      · rw [if_neg hd, if_neg (by omega)]
/-- The same from 0 on, behind what they have in common. -/
theorem node_shift0 {a : ByteArray} (ha : rightL a.data.toList = true) {L : List Pr} {m q : Nat} {p : Pr} (hm : May m L) (hq : Lcp L q) (hp : p ∈ L) (h0 : a.size ≠ 0) : node 0 (shift a L) = extL (a.data.toList ++ (kb p).take q) (refN (node q L)) := by
  have hn := node_shift ha (L.length + 1) L m q (by omega) hm
  rw [node_many (hm.shift ha) (hq.shift (a := a)) (List.mem_map.2 ⟨p, hp, rfl⟩), if_pos (by omega), List.drop_zero, kb_shift]
  rw [node_many (hm.shift ha) (hq.shift (a := a)) (List.mem_map.2 ⟨p, hp, rfl⟩), if_neg (by omega)] at hn
  have e : a.size = a.data.toList.length := rfl
  rw [e, List.take_length_add_append, ← e, hn]
end Go.Proofs.YtjdhdeffiigpbaaDoor
/-
  From 0 on the node is another one if there is something ahead (pure).
-/
namespace Go.Proofs.YtjdhdeffiigpbaaDoor
open Go Nb

theorem ofNat_inj8 {a b : Nat} (ha : a < 256) (hb : b < 256) (h : UInt8.ofNat a = UInt8.ofNat b) : a = b := by
  have := congrArg UInt8.toNat h
  simp only [UInt8.toNat_ofNat'] at this
  omega
theorem hd_inj {b : Nat} (hb : b + 63 ≤ 255) (p q : List UInt8) (h : hd b p.length ++ p = hd b q.length ++ q) : p = q := by
  have l1 := num_len p.length
  have l2 := num_len q.length
  unfold hd at h
  by_cases h1 : p.length < 56 <;> by_cases h2 : q.length < 56
  · rw [if_pos h1, if_pos h2] at h
    exact (List.cons.inj h).2
  · rw [if_pos h1, if_neg h2] at h
    have e := ofNat_inj8 (by omega) (by omega) (List.cons.inj h).1
    have := num_len_pos (n := q.length) (by omega)
    omega
  · rw [if_neg h1, if_pos h2] at h
    have e := ofNat_inj8 (by omega) (by omega) (List.cons.inj h).1
    have := num_len_pos (n := p.length) (by omega)
    omega
  · rw [if_neg h1, if_neg h2] at h
    have e := ofNat_inj8 (by omega) (by omega) (List.cons.inj h).1
    have h3 : num p.length ++ p = num q.length ++ q := (List.cons.inj h).2
    exact (List.append_inj h3 (by omega)).2
theorem listL_inj {p q : List UInt8} (h : listL p = listL q) : p = q := hd_inj (by omega) p q h
theorem hd_head (b n : Nat) (hb : b + 63 ≤ 255) : ∃ x t, hd b n = x :: t ∧ b ≤ x.toNat ∧ (n < 56 → x.toNat = b + n) := by
  have l1 := num_len n
  unfold hd
  by_cases h : n < 56
  · rw [if_pos h]
    exact ⟨_, _, rfl, by simp only [UInt8.toNat_ofNat']; omega, fun _ => by simp only [UInt8.toNat_ofNat']; omega⟩
  · rw [if_neg h]
    exact ⟨_, _, rfl, by simp only [UInt8.toNat_ofNat']; omega, fun q => absurd q h⟩
theorem alone_one {l : List UInt8} (h : alone l = true) : ∃ c, l = [c] ∧ c.toNat < 128 := by
  unfold alone at h
  split at h
  · exact ⟨_, rfl, of_decide_eq_true h⟩
  · cases h
theorem bytesL_inj {p q : List UInt8} (h : bytesL p = bytesL q) : p = q := by
  have key : ∀ p q : List UInt8, alone p = true → ¬ alone q = true → p = hd 128 q.length ++ q → False := fun p q h1 _ h => by
    obtain ⟨c, rfl, hc⟩ := alone_one h1
    obtain ⟨x, t, hx, h128, _⟩ := hd_head 128 q.length (by omega)
    rw [hx] at h
    have := (List.cons.inj h).1
    subst this
    omega
  unfold bytesL at h
  by_cases h1 : alone p = true <;> by_cases h2 : alone q = true
  · rwa [if_pos h1, if_pos h2] at h
  · rw [if_pos h1, if_neg h2] at h; exact (key p q h1 h2 h).elim
  · rw [if_neg h1, if_pos h2] at h; exact (key q p h2 h1 h.symm).elim
  · rw [if_neg h1, if_neg h2] at h; exact hd_inj (by omega) p q h
theorem pck_inj {x y : List UInt8} {leaf : Bool} (hx : rightL x = true) (hy : rightL y = true) (h : pck x leaf = pck y leaf) : x = y := by
  have h1 := unp_pck x leaf hx
  rw [h, unp_pck y leaf hy] at h1
  exact ((Prod.mk.inj (Option.some.inj h1)).1).symm
theorem leafL_inj {x y v : List UInt8} (hx : rightL x = true) (hy : rightL y = true) (h : leafL x v = leafL y v) : x = y :=
  pck_inj hx hy (bytesL_inj (List.append_cancel_right (listL_inj h)))
theorem extL_inj {x y r : List UInt8} (hx : rightL x = true) (hy : rightL y = true) (h : extL x r = extL y r) : x = y :=
  pck_inj hx hy (bytesL_inj (List.append_cancel_right (listL_inj h)))
theorem pck_head (l : List UInt8) (hr : rightL l = true) : ∃ c t, pck l false = c :: t ∧ c.toNat < 128 ∧ t.length = l.length / 2 := by
  unfold pck
  by_cases h : l.length % 2 = 1
  · rw [if_pos h]
    have h0 : 0 < l.length := by omega
    have hc := right_at l hr 0 h0
    refine ⟨_, _, rfl, ?_, ?_⟩
    · rw [List.getD_eq_getElem?_getD, List.getElem?_eq_getElem h0, Option.getD_some]
      simp only [UInt8.toNat_ofNat', flagN]
      have : (if false = true then 2 else 0 : Nat) = 0 := rfl
      simp
      omega
    · rw [whL_len, List.length_drop]; omega
  · rw [if_neg h]
    exact ⟨_, _, rfl, by simp [flagN], whL_len l⟩
theorem ext_head (l r : List UInt8) (hr : rightL l = true) (hl : l.length ≤ 40) : ∃ x t, bytesL (pck l false) ++ r = x :: t ∧ (x.toNat < 128 ∨ 130 ≤ x.toNat ∧ x.toNat ≤ 149) := by
  obtain ⟨c, t, hp, hc, ht⟩ := pck_head l hr
  rw [hp]
  unfold bytesL
  by_cases h1 : alone (c :: t) = true
  · rw [if_pos h1]; exact ⟨c, t ++ r, rfl, .inl hc⟩
  · rw [if_neg h1]
    have hne : t ≠ [] := fun e => h1 (by subst e; unfold alone; exact decide_eq_true hc)
    have hpos : 0 < t.length := List.length_pos_iff.2 hne
    obtain ⟨x, u, hx, _, h3⟩ := hd_head 128 (c :: t).length (by omega)
    rw [hx]
    have := h3 (by simp only [List.length_cons]; omega)
    simp only [List.length_cons] at this
    exact ⟨x, _, rfl, .inr ⟨by omega, by omega⟩⟩
theorem node_listL {m d : Nat} {L : List Pr} (hm : May m L) (h0 : L ≠ []) : ∃ X, node d L = listL X := by
  rcases may_cases hm with rfl | ⟨p, rfl⟩ | ⟨q, hq⟩
  · exact absurd rfl h0
  · exact ⟨_, node_one d p⟩
  · obtain ⟨x, hx, _⟩ := hq.differ
    rw [node_many hm hq hx]
    split
    · exact ⟨_, rfl⟩
    · exact ⟨_, rfl⟩
theorem kids_head {m q : Nat} {L : List Pr} (hm : May m L) (c : Nat) : ∃ x t, (if kids q L c = [] then [128] else kids q L c) = x :: t ∧ (x.toNat = 128 ∨ x.toNat = 160 ∨ 192 ≤ x.toNat) := by
  by_cases h0 : kids q L c = []
  · rw [if_pos h0]; exact ⟨128, [], rfl, .inl rfl⟩
  · rw [if_neg h0]
    unfold kids at h0 ⊢
    by_cases h1 : atN q c L = []
    · rw [if_pos h1] at h0; exact absurd rfl h0
    · rw [if_neg h1]
      obtain ⟨X, hX⟩ := node_listL (d := q + 1) (hm.filter fun x => nibAt q x == c) h1
      have hX : node (q + 1) (atN q c L) = listL X := hX
      unfold refN
      split
      · rw [hX]
        obtain ⟨x, u, hx, h2, _⟩ := hd_head 192 X.length (by omega)
        unfold listL
        rw [hx]
        exact ⟨x, _, rfl, .inr (.inr h2)⟩
      · have hl : (K.headL (K.hashOf (node (q + 1) (atN q c L))) 32).length = 32 := by simp [K.headL]
        unfold bytesL
        have ha : ¬ alone (K.headL (K.hashOf (node (q + 1) (atN q c L))) 32) = true := fun e => by
          obtain ⟨c, hc, _⟩ := alone_one e
          rw [hc] at hl
          simp at hl
        rw [if_neg ha, hl]
        obtain ⟨x, u, hx, _, h3⟩ := hd_head 128 32 (by omega)
        rw [hx]
        exact ⟨x, _, rfl, .inr (.inl (by have := h3 (by omega); omega))⟩
theorem node_shift_ne {a : ByteArray} (ha : rightL a.data.toList = true) {L : List Pr} {m : Nat} (hm : May m L) (hL : L ≠ []) (h0 : a.size ≠ 0) (h40 : a.size ≤ 40) : node 0 (shift a L) ≠ node 0 L := by
  have hne : a.data.toList ≠ [] := fun e => h0 (by rw [← sizeB, e]; rfl)
  rcases may_cases hm with rfl | ⟨p, rfl⟩ | ⟨q, hq⟩
  · exact absurd rfl hL
  · intro e
    have e : node 0 [shiftP a p] = node 0 [p] := e
    rw [node_one, node_one, vb_shift, List.drop_zero, List.drop_zero, kb_shift] at e
    have hp := hm.nib p List.mem_cons_self
    have := leafL_inj (right_app _ _ ha hp) hp e
    exact hne (List.eq_nil_of_length_eq_zero (by have := congrArg List.length this; rw [List.length_append] at this; omega))
  · obtain ⟨x, hx, _⟩ := hq.differ
    intro e
    have hb : node q L = brL (kids q L) := by rw [node_many hm hq hx, if_neg (by omega)]
    rw [node_shift0 ha hm hq hx h0, hb, node_many hm hq hx] at e
    have hr := right_take _ q (hm.nib x hx)
    by_cases hq0 : 0 < q
    · rw [if_pos hq0, List.drop_zero] at e
      have := extL_inj (right_app _ _ ha hr) hr e
      exact hne (List.eq_nil_of_length_eq_zero (by have := congrArg List.length this; rw [List.length_append] at this; omega))
    · rw [if_neg hq0] at e
      have hq00 : q = 0 := by omega
      subst hq00
      rw [List.take_zero, List.append_nil] at e
      have e := listL_inj e
      obtain ⟨y, t, h1, h2⟩ := ext_head a.data.toList (refN (brL (kids 0 L))) ha (by rw [sizeB]; exact h40)
      rw [h1] at e
      obtain ⟨z, u, h3, h4⟩ := kids_head (q := 0) hm 0
      have hr16 : List.range 16 = 0 :: (List.range 15).map (· + 1) := by decide
      rw [hr16, List.map_cons, List.flatten_cons, h3] at e
      have := (List.cons.inj e).1
      subst this
      omega
end Go.Proofs.YtjdhdeffiigpbaaDoor
/-
  Two pairs' node, by hand.
-/
namespace Go.Proofs.YtjdhdeffiigpbaaDoor
open Go Go.RowKit Nb

section
variable {P : Program} {ops : Array Oper} {C : World → Prop}
theorem cq_neqS {rest : List Oper} {op : Oper} {a : Act} {Q : Act → Prop} (t t' : TypeId) (x y : Operand) (ho : op.op = .binOp .neq t x y t')
    (xs ys : Array Value) (hx : a.eval x = .agg xs) (hy : a.eval y = .agg ys) (hw : Region.wanted op (yielded ops a.tmps) = true) (r : Bool) (hg : P.eqGuardType P.depth t = false) (he : ∀ w, C w → (Op.equalIn 10000 t (.agg xs) (.agg ys)).run P w = .ok r w)
    (h : wpQuiet P ops C Q rest (a.put op.dst (.bool !r))) : wpQuiet P ops C Q (op :: rest) a :=
  cq_val hw (.bool !r) (fun w hC => by
    unfold execOp
    have h1 := run_eqGuard_agg (P := P) w .neq t x y xs ys hg
    have h2 := run_neq_struct (P := P) w t xs ys
    rw [he w hC] at h2
    simp only [ho, hx, hy, Sem.run_bind, Sem.run_pure, h1, h2, Result.andThen_ok]) h
end
def lfT (p : Nat) (x : Pr) : ByteArray := ⟨(leafL ((kb x).drop (p + 1)) (vb x)).toArray⟩
def refT (p : Nat) (x : Pr) : ByteArray := ⟨(refN (lfT p x).data.toList).toArray⟩
def longR (p : Nat) (a b : Pr) (i j : Nat) : ByteArray := if 1 < i ∧ j = nibAt p b then refT p b else if 0 < i ∧ j = nibAt p a then refT p a else ⟨#[]⟩
theorem longR_zero (p : Nat) (a b : Pr) : strA 16 (longR p a b 0) = strA 16 fun _ => ⟨#[]⟩ := strA_congr fun j _ => by
  unfold longR; rw [if_neg (by omega), if_neg (by omega)]
theorem longR_a (p : Nat) (a b : Pr) (h : nibAt p a < 16) : strA 16 (longR p a b 1) = (strA 16 (longR p a b 0)).setIfInBounds (nibAt p a) (.string (refT p a)) := by
  rw [strA_set 16 _ _ h]
  refine strA_congr fun j _ => ?_
  unfold longR
  by_cases e : j = nibAt p a <;> simp [e]
theorem longR_b (p : Nat) (a b : Pr) (h : nibAt p b < 16) : strA 16 (longR p a b 2) = (strA 16 (longR p a b 1)).setIfInBounds (nibAt p b) (.string (refT p b)) := by
  rw [strA_set 16 _ _ h]
  refine strA_congr fun j _ => ?_
  unfold longR
  by_cases e : j = nibAt p b <;> simp [e]
theorem longR_size (p : Nat) (a b : Pr) (i j : Nat) : (longR p a b i j).size ≤ 41 := by
  have h : ∀ x, (refT p x).size ≤ 41 := fun x => refN_len _
  unfold longR
  split
  · exact h b
  · split
    · exact h a
    · decide
theorem two_facts {m : Nat} {a b : Pr} (hm : May m [a, b]) : pre (kb a) (kb b) < m ∧ Lcp [a, b] (pre (kb a) (kb b)) ∧ nibAt (pre (kb a) (kb b)) a ≠ nibAt (pre (kb a) (kb b)) b := by
  have hne : kb a ≠ kb b := by
    have := hm.apart
    exact (List.pairwise_cons.1 this).1 b List.mem_cons_self
  have ha : a ∈ [a, b] := List.mem_cons_self
  have hb : b ∈ [a, b] := by simp
  have hlt := pre_lt hm ha hb hne
  have hat := pre_at hm ha hb hne
  refine ⟨hlt, ⟨?_, a, ha, b, hb, hat⟩, fun e => hat (nibAt_eq hm hlt ha hb e)⟩
  intro x hx y hy
  have ht := pre_take (kb a) (kb b)
  simp only [List.mem_cons, List.not_mem_nil, or_false] at hx hy
  rcases hx with rfl | rfl <;> rcases hy with rfl | rfl
  · rfl
  · exact ht
  · exact ht.symm
  · rfl
theorem node_two {m : Nat} {a b : Pr} (hm : May m [a, b]) : node 0 [a, b] = if 0 < pre (kb a) (kb b) then extL ((kb a).take (pre (kb a) (kb b))) (refN (brL fun c => (longR (pre (kb a) (kb b)) a b 2 c).data.toList)) else brL fun c => (longR (pre (kb a) (kb b)) a b 2 c).data.toList := by
  obtain ⟨hlt, hl, hn⟩ := two_facts hm
  obtain ⟨q, hq⟩ : ∃ q, pre (kb a) (kb b) = q := ⟨_, rfl⟩
  rw [hq] at hlt hl hn ⊢
  rw [node_many hm hl (p := a) List.mem_cons_self, List.drop_zero]
  have e : (brL (kids q [a, b])) = brL fun c => (longR q a b 2 c).data.toList := by
    refine brL_congr fun c _ => ?_
    unfold kids longR atN
    by_cases e1 : nibAt q b = c
    · have e2 : nibAt q a ≠ c := fun h => hn (h.trans e1.symm)
      have : List.filter (fun x => nibAt q x == c) [a, b] = [b] := by simp [e1, e2]
      rw [this, if_neg (by simp), if_pos ⟨by omega, e1.symm⟩, node_one]; rfl
    · by_cases e2 : nibAt q a = c
      · have : List.filter (fun x => nibAt q x == c) [a, b] = [a] := by simp [e1, e2]
        rw [this, if_neg (by simp), if_neg (fun h => e1 h.2.symm), if_pos ⟨by omega, e2.symm⟩, node_one]; rfl
      · have : List.filter (fun x => nibAt q x == c) [a, b] = [] := by simp [e1, e2]
        rw [this, if_pos rfl, if_neg (fun h => e1 h.2.symm), if_neg (fun h => e2 h.2.symm)]
  rw [e]
end Go.Proofs.YtjdhdeffiigpbaaDoor
/-
  TrieLong's walk.
-/
namespace Go.Proofs.YtjdhdeffiigpbaaDoor
open Go Go.RowKit Nb

/-- What TrieLong's walk has of its pairs, whatever the world. -/
structure LongIs (w : World) (g o c m p n0 n1 : Nat) (a1 a2 b1 b2 la A B ta tb ra rb bt P xt nd : ByteArray) (on tw : Array Value) (cs0 cs1 cs2 : Array Value) : Prop where
  row : ∀ W, Below w.heap.size w W → PairsAt W (.slice (some ⟨g, o, none⟩) 2 c) [(a1, a2), (b1, b2)] ∧ K.Tabs W
  sizes : a1.size = m ∧ b1.size = m ∧ p < m ∧ m ≤ 64
  nibA : ∃ h : p < a1.size, (a1[p]).toNat = n0
  nibB : ∃ h : p < b1.size, (b1[p]).toNat = n1
  nibs : n0 < 16 ∧ n1 < 16
  root1 : ∀ W, K.Tabs W → Calls Tryd.prog 24 #[.slice (some ⟨W.heap.size, 0, none⟩) 1 1] (W.alloc (.cells #[.string a1, .string a2] 33)) fun e w' => e = .returned (.tuple #[.agg on, .int .i64 0]) ∧ Below W.heap.size W w'
  leaf : ∀ W, Calls Tryd.prog 8 #[.string a1, .string a2] W fun e w' => e = .returned (.tuple #[.string la, .int .i64 0]) ∧ Below W.heap.size W w'
  sum1 : ∀ W, Calls Tryd.prog 25 #[.string la] W fun e w' => e = .returned (.agg on) ∧ Below W.heap.size W w'
  prefx : ∀ W, Calls Tryd.prog 19 #[.string a1, .string b1] W fun e w' => e = .returned (.int .i64 (p : Nat)) ∧ Below W.heap.size W w'
  sliceA : ∀ W : World, (Instr.sliceAt 9 (.string a1) (some (.int .i64 ((p + 1 : Nat) : Int))) none none).run Tryd.prog W = .ok (.string A) W
  sliceB : ∀ W : World, (Instr.sliceAt 9 (.string b1) (some (.int .i64 ((p + 1 : Nat) : Int))) none none).run Tryd.prog W = .ok (.string B) W
  leafA : ∀ W, Calls Tryd.prog 8 #[.string A, .string a2] W fun e w' => e = .returned (.tuple #[.string ta, .int .i64 0]) ∧ Below W.heap.size W w'
  leafB : ∀ W, Calls Tryd.prog 8 #[.string B, .string b2] W fun e w' => e = .returned (.tuple #[.string tb, .int .i64 0]) ∧ Below W.heap.size W w'
  refA : ∀ W, K.Tabs W → Calls Tryd.prog 14 #[.string ta] W fun e w' => e = .returned (.string ra) ∧ Below W.heap.size W w'
  refB : ∀ W, K.Tabs W → Calls Tryd.prog 14 #[.string tb] W fun e w' => e = .returned (.string rb) ∧ Below W.heap.size W w'
  refs : cs0 = strA 16 (fun _ => ⟨#[]⟩) ∧ cs1 = cs0.setIfInBounds n0 (.string ra) ∧ cs2 = cs1.setIfInBounds n1 (.string rb) ∧ cs0.size = 16 ∧ cs1.size = 16 ∧ cs2.size = 16
  branch : ∀ W, Calls Tryd.prog 12 #[.agg cs2] W fun e w' => e = .returned (.string bt) ∧ Below W.heap.size W w'
  cut : ∀ W : World, (Instr.sliceAt 9 (.string a1) none (some (.int .i64 (p : Int))) none).run Tryd.prog W = .ok (.string P) W
  refX : ∀ W, K.Tabs W → Calls Tryd.prog 14 #[.string bt] W fun e w' => e = .returned (.string xt) ∧ Below W.heap.size W w'
  ext : 0 < p → ∀ W, Calls Tryd.prog 10 #[.string P, .string xt] W fun e w' => e = .returned (.tuple #[.string nd, .int .i64 0]) ∧ Below W.heap.size W w'
  noExt : ¬ 0 < p → bt = nd
  root2 : ∀ W, Below w.heap.size w W → Calls Tryd.prog 24 #[.slice (some ⟨g, o, none⟩) 2 c] W fun e w' => e = .returned (.tuple #[.agg tw, .int .i64 0]) ∧ Below W.heap.size W w'
  sum2 : ∀ W, Calls Tryd.prog 25 #[.string nd] W fun e w' => e = .returned (.agg tw) ∧ Below W.heap.size W w'
  eq1 : ∀ W : World, (Op.equalIn 10000 40 (.agg on) (.agg on)).run Tryd.prog W = .ok true W
  eq2 : ∀ W : World, (Op.equalIn 10000 40 (.agg tw) (.agg tw)).run Tryd.prog W = .ok true W
  sums : on.size = 32 ∧ tw.size = 32 ∧ on.all (·.oneCell') = true ∧ tw.all (·.oneCell') = true
theorem may_sub {m : Nat} {a b : Pr} (h : May m [a, b]) : May m [a] :=
  ⟨fun p hp => h.len p (by simp at hp; simp [hp]), fun p hp => h.nib p (by simp at hp; simp [hp]), fun p hp => h.val p (by simp at hp; simp [hp]), List.pairwise_singleton _ _⟩
theorem extL_size {p r : List UInt8} : ((⟨(extL p r).toArray⟩ : ByteArray)).size = (extL p r).length := rfl
theorem key_data (x y : ByteArray) : kb (x, y) = x.data.toList := rfl
theorem leaf_of (x v : ByteArray) (X : List UInt8) (hx : x.data.toList = X) (hr : rightL X = true) (hl : x.size ≤ 1000000) (hv : v.size ≤ 1000000) (W : World) :
    Calls Tryd.prog 8 #[.string x, .string v] W fun e w' => e = .returned (.tuple #[.string ⟨(leafL X v.data.toList).toArray⟩, .int .i64 0]) ∧ Below W.heap.size W w' := by
  have h := leaf_any x v W hl hv
  unfold leafS okE at h
  rw [hx, hr, if_pos rfl, if_pos rfl] at h
  exact h
theorem nib_of {x v : ByteArray} {p : Nat} (h : p < x.size) : (x[p]).toNat = nibAt p (x, v) := by
  unfold nibAt
  rw [key_data, List.getD_eq_getElem?_getD, List.getElem?_eq_getElem (by rw [sizeB]; exact h)]
  rw [getB x p h]; rfl
theorem root_on (L : List Pr) (W : World) (v : Value) (h : PairsAt W v L) (hT : K.Tabs W) (hm : mayL L) (h0 : L ≠ []) (hl : L.length ≤ 100000) (hk : ∀ p ∈ L, p.1.size ≤ 100000) (hv : ∀ p ∈ L, p.2.size ≤ 1000000) :
    Calls Tryd.prog 24 #[v] W fun e w' => e = .returned (.tuple #[.agg (K.bytesA 32 (K.hashOf (node 0 L))), .int .i64 0]) ∧ Below W.heap.size W w' := by
  refine (root_any v L W h hT hl hk hv).mono fun e w' hr => ?_
  obtain ⟨h1 | h1, hB⟩ := hr
  · refine ⟨?_, hB⟩
    rw [h1.2]; unfold rootF; rw [if_neg h0]
  · exact absurd hm h1.1
theorem long_is {w : World} {g o c m : Nat} {a1 a2 b1 b2 : ByteArray} (hP : PairsAt w (.slice (some ⟨g, o, none⟩) 2 c) [(a1, a2), (b1, b2)]) (hT : K.Tabs w) (hM : Made m [(a1, a2), (b1, b2)]) :
    ∃ p n0 n1 la A B ta tb ra rb bt P xt nd on tw cs0 cs1 cs2, LongIs w g o c m p n0 n1 a1 a2 b1 b2 la A B ta tb ra rb bt P xt nd on tw cs0 cs1 cs2 := by
  have hma := hM.may.len (a1, a2) (by simp)
  have hmb := hM.may.len (b1, b2) (by simp)
  have hra := hM.may.nib (a1, a2) (by simp)
  have hrb := hM.may.nib (b1, b2) (by simp)
  have hva : a2.size ≤ 100 := hM.vals (a1, a2) (by simp)
  have hvb : b2.size ≤ 100 := hM.vals (b1, b2) (by simp)
  have hm64 := hM.most
  obtain ⟨hlt, hlcp, hne⟩ := two_facts hM.may
  have hnode := node_two hM.may
  obtain ⟨p, hp⟩ : ∃ p, pre (kb (a1, a2)) (kb (b1, b2)) = p := ⟨_, rfl⟩
  rw [hp] at hlt hlcp hne hnode
  have hsa : a1.size = m := hma
  have hsb : b1.size = m := hmb
  have n0 := nibAt_lt hM.may (q := p) (p := (a1, a2)) (by simp)
  have n1 := nibAt_lt hM.may (q := p) (p := (b1, b2)) (by simp)
  have hX : (a1.extract (p + 1) a1.size).data.toList = (kb (a1, a2)).drop (p + 1) := by
    rw [extract_data, List.take_of_length_le (by rw [sizeB]; exact Nat.le_refl _)]; rfl
  have hY : (b1.extract (p + 1) b1.size).data.toList = (kb (b1, b2)).drop (p + 1) := by
    rw [extract_data, List.take_of_length_le (by rw [sizeB]; exact Nat.le_refl _)]; rfl
  have hXs : (a1.extract (p + 1) a1.size).size ≤ 64 := by rw [← sizeB, hX, List.length_drop]; omega
  have hYs : (b1.extract (p + 1) b1.size).size ≤ 64 := by rw [← sizeB, hY, List.length_drop]; omega
  have hPd : (a1.extract 0 p).data.toList = (kb (a1, a2)).take p := by
    rw [extract_data]; rfl
  have hPs : (a1.extract 0 p).size ≤ 64 := by rw [← sizeB, hPd, List.length_take]; omega
  have hla := leafL_len a1.data.toList a2.data.toList
  have hl1 : a1.data.toList.length = m := hma
  have hl2 : a2.data.toList.length ≤ 100 := hva
  have hl3 : b2.data.toList.length ≤ 100 := hvb
  have hlfa : (lfT p (a1, a2)).size ≤ 200 := by
    have := leafL_len ((kb (a1, a2)).drop (p + 1)) (vb (a1, a2))
    have e : (lfT p (a1, a2)).size = (leafL ((kb (a1, a2)).drop (p + 1)) (vb (a1, a2))).length := rfl
    have e2 : (vb (a1, a2)).length ≤ 100 := hva
    rw [e]; rw [List.length_drop] at this; omega
  have hlfb : (lfT p (b1, b2)).size ≤ 200 := by
    have := leafL_len ((kb (b1, b2)).drop (p + 1)) (vb (b1, b2))
    have e : (lfT p (b1, b2)).size = (leafL ((kb (b1, b2)).drop (p + 1)) (vb (b1, b2))).length := rfl
    have e2 : (vb (b1, b2)).length ≤ 100 := hvb
    rw [e]; rw [List.length_drop] at this; omega
  have hbl : (brL fun c => (longR p (a1, a2) (b1, b2) 2 c).data.toList).length ≤ 666 := brL_len 41 _ (fun c _ => longR_size p _ _ 2 c) (by omega)
  obtain ⟨bl, hbe⟩ : ∃ bl, (brL fun c => (longR p (a1, a2) (b1, b2) 2 c).data.toList) = bl := ⟨_, rfl⟩
  have hbr := fun W => branch_any (longR p (a1, a2) (b1, b2) 2) W (fun c _ => by have := longR_size p (a1, a2) (b1, b2) 2 c; omega)
  rw [hbe] at hbl hnode hbr
  have hxl := refN_len bl
  have hel := extL_len ((kb (a1, a2)).take p) (refN bl)
  have hndl : (node 0 [(a1, a2), (b1, b2)]).length ≤ 3000 := by
    rw [hnode]
    split
    · rw [List.length_take] at hel; omega
    · omega
  have hrw : ∀ W, Below w.heap.size w W → PairsAt W (.slice (some ⟨g, o, none⟩) 2 c) [(a1, a2), (b1, b2)] ∧ K.Tabs W := fun W hW => ⟨hP.below hW, hT.below hW⟩
  have hmem : ∀ x ∈ [((a1, a2) : Pr), (b1, b2)], x.1.size ≤ 100000 ∧ x.2.size ≤ 1000000 := fun x hx => by
    simp only [List.mem_cons, List.not_mem_nil, or_false] at hx
    rcases hx with rfl | rfl
    · exact ⟨by show a1.size ≤ _; omega, by show a2.size ≤ _; omega⟩
    · exact ⟨by show b1.size ≤ _; omega, by show b2.size ≤ _; omega⟩
  refine ⟨p, nibAt p (a1, a2), nibAt p (b1, b2), ⟨(leafL a1.data.toList a2.data.toList).toArray⟩, a1.extract (p + 1) a1.size, b1.extract (p + 1) b1.size, lfT p (a1, a2), lfT p (b1, b2), refT p (a1, a2), refT p (b1, b2), ⟨bl.toArray⟩, a1.extract 0 p, ⟨(refN bl).toArray⟩, ⟨(node 0 [(a1, a2), (b1, b2)]).toArray⟩, K.bytesA 32 (K.hashOf (leafL a1.data.toList a2.data.toList)), K.bytesA 32 (K.hashOf (node 0 [(a1, a2), (b1, b2)])), strA 16 (longR p (a1, a2) (b1, b2) 0), strA 16 (longR p (a1, a2) (b1, b2) 1), strA 16 (longR p (a1, a2) (b1, b2) 2), ?_⟩
  refine ⟨hrw, ⟨hsa, hsb, hlt, hm64⟩, ⟨by omega, nib_of _⟩, ⟨by omega, nib_of _⟩, ⟨n0, n1⟩, ?_, ?_, ?_, ?_, ?_, ?_, ?_, ?_, ?_, ?_, ?_, hbr, ?_, ?_, ?_, ?_, ?_, ?_, ?_, ?_, ?_⟩
  · intro W hTW
    have hPW : PairsAt (W.alloc (.cells #[.string a1, .string a2] 33)) (.slice (some ⟨W.heap.size, 0, none⟩) 1 1) [(a1, a2)] := .inr ⟨W.heap.size, 0, 1, rfl, Nat.le_refl _, fun i x hx => by
      match i, hx with
      | 0, hx => obtain rfl := Option.some.inj hx; exact pair_new W a1 a2⟩
    have hB0 : Below W.heap.size W (W.alloc (.cells #[.string a1, .string a2] 33)) := (Below.refl _ _).alloc (Nat.le_refl _) _
    have := root_on [(a1, a2)] _ _ hPW (hTW.below hB0) ⟨m, may_sub hM.may⟩ (by simp) (by simp) (fun x hx => (hmem x (by simp at hx; simp [hx])).1) (fun x hx => (hmem x (by simp at hx; simp [hx])).2)
    rw [node_one, List.drop_zero] at this
    exact this.mono fun e w' ⟨he, hB⟩ => ⟨he, alloc_below hB⟩
  · exact fun W => leaf_of a1 a2 _ rfl hra (by omega) (by omega) W
  · intro W
    exact K.refSum_any ⟨(leafL a1.data.toList a2.data.toList).toArray⟩ W (by show (leafL a1.data.toList a2.data.toList).length ≤ _; omega)
  · intro W
    refine (refPrefix_drew a1 b1 W (by omega) (by omega)).mono fun e w' ⟨he, n, hn⟩ => ⟨?_, ?_⟩
    · rw [he, ← hp]; rfl
    · rw [hn]
      have hb := Below.refl W.heap.size W
      exact ⟨hb.os, hb.tape, hb.output, hb.size, hb.block⟩
  · exact fun W => slice_from a1 (p + 1) (by omega) W
  · exact fun W => slice_from b1 (p + 1) (by omega) W
  · exact fun W => leaf_of _ a2 _ hX (right_drop _ _ hra) (by omega) (by omega) W
  · exact fun W => leaf_of _ b2 _ hY (right_drop _ _ hrb) (by omega) (by omega) W
  · exact fun W hTW => ref_any (lfT p (a1, a2)) W hTW (by omega)
  · exact fun W hTW => ref_any (lfT p (b1, b2)) W hTW (by omega)
  · exact ⟨longR_zero p _ _, longR_a p _ _ n0, longR_b p _ _ n1, strA_size _ _, strA_size _ _, strA_size _ _⟩
  · exact fun W => slice_cut a1 p (by omega) W
  · exact fun W hTW => ref_any ⟨bl.toArray⟩ W hTW (by show bl.length ≤ _; omega)
  · intro hp0 W
    have h := ext_any (a1.extract 0 p) ⟨(refN bl).toArray⟩ W (by omega) (by show (refN bl).length ≤ _; omega)
    unfold extS okE at h
    rw [hPd, right_take _ _ hra, if_pos rfl, if_pos rfl] at h
    rw [hnode, if_pos hp0]
    exact h
  · intro hp0
    rw [hnode, if_neg hp0]
  · intro W hW
    exact root_on _ W _ (hrw W hW).1 (hrw W hW).2 ⟨m, hM.may⟩ (by simp) (by simp) (fun x hx => (hmem x hx).1) (fun x hx => (hmem x hx).2)
  · exact fun W => K.refSum_any ⟨(node 0 [(a1, a2), (b1, b2)]).toArray⟩ W hndl
  · exact fun W => K.eql_sums_same W _
  · exact fun W => K.eql_sums_same W _
  · exact ⟨K.bytesA_size 32 _, K.bytesA_size 32 _, K.bytesA_one 32 _, K.bytesA_one 32 _⟩
end Go.Proofs.YtjdhdeffiigpbaaDoor
/-
  What TrieDepth's walk has of its pairs.
-/
namespace Go.Proofs.YtjdhdeffiigpbaaDoor
open Go Go.RowKit Nb

theorem minPre_snoc (k : List UInt8) (x : Pr) : ∀ l : List Pr, minPre k (l ++ [x]) = min (minPre k l) (pre k (kb x))
  | [] => by
    show min (pre k (kb x)) k.length = min k.length (pre k (kb x))
    exact Nat.min_comm _ _
  | y :: l => by
    show min (pre k (kb y)) (minPre k (l ++ [x])) = min (min (pre k (kb y)) (minPre k l)) (pre k (kb x))
    rw [minPre_snoc k x l, Nat.min_assoc]
theorem node_on (d : Nat) (L : List Pr) (W : World) (v : Value) (m : Nat) (h : PairsAt W v L) (hT : K.Tabs W) (hm : May m L) (h0 : L ≠ []) (hd : d ≤ m) (ha : Alike d L) (hl : L.length ≤ 100000) (hk : ∀ p ∈ L, p.1.size ≤ 100000) (hv : ∀ p ∈ L, p.2.size ≤ 1000000) :
    Calls Tryd.prog 18 #[.int .i64 (d : Nat), v] W fun e w' => e = .returned (.tuple #[.string ⟨(node d L).toArray⟩, .int .i64 0]) ∧ Below W.heap.size W w' := by
  refine (node_any (d : Nat) v L W h hT hl hk hv).mono fun e w' hr => ?_
  obtain ⟨h1 | h1, hB⟩ := hr
  · exact ⟨h1.2, hB⟩
  · exact absurd ⟨m, hm, h0, by omega, by omega, ha⟩ h1.1
theorem node_off (d : Nat) (L : List Pr) (W : World) (v : Value) (m : Nat) (h : PairsAt W v L) (hT : K.Tabs W) (hm : May m L) (h0 : L ≠ []) (hd : m < d) (hl : L.length ≤ 100000) (hk : ∀ p ∈ L, p.1.size ≤ 100000) (hv : ∀ p ∈ L, p.2.size ≤ 1000000) :
    Calls Tryd.prog 18 #[.int .i64 (d : Nat), v] W fun e w' => e = .returned (.tuple #[.string ⟨#[]⟩, .int .i64 1]) ∧ Below W.heap.size W w' := by
  refine (node_any (d : Nat) v L W h hT hl hk hv).mono fun e w' hr => ?_
  obtain ⟨h1 | h1, hB⟩ := hr
  · obtain ⟨⟨n, hn, _, _, h3, _⟩, _⟩ := h1
    have := may_uniq hm hn h0
    omega
  · exact ⟨h1.2, hB⟩
structure DepthIs (w : World) (g o c N m al q e : Nat) (L : List Pr) (x0 y0 a nA nC nB xB X1 : ByteArray) : Prop where
  row : ∀ W, Below w.heap.size w W → PairsAt W (.slice (some ⟨g, o, none⟩) N c) L ∧ K.Tabs W
  nums : L.length = N ∧ 1 ≤ N ∧ N ≤ 60 ∧ m ≤ 64 ∧ a.size = al ∧ al ≤ 40 ∧ x0.size = m ∧ e = al + m + 1 ∧ q ≤ m
  keys : ∀ p ∈ L, p.1.size = m
  head : L[0]? = some (x0, y0)
  nodeA : ∀ W, Below w.heap.size w W → Calls Tryd.prog 18 #[.int .i64 0, .slice (some ⟨g, o, none⟩) N c] W fun e w' => e = .returned (.tuple #[.string nA, .int .i64 0]) ∧ Below W.heap.size W w'
  nodeB : ∀ W v, PairsAt W v (shift a L) → K.Tabs W → Calls Tryd.prog 18 #[.int .i64 (al : Nat), v] W fun e w' => e = .returned (.tuple #[.string nA, .int .i64 0]) ∧ Below W.heap.size W w'
  nodeC : ∀ W v, PairsAt W v (shift a L) → K.Tabs W → Calls Tryd.prog 18 #[.int .i64 0, v] W fun e w' => e = .returned (.tuple #[.string nC, .int .i64 0]) ∧ Below W.heap.size W w'
  nodeD : ∀ W v, PairsAt W v (shift a L) → K.Tabs W → Calls Tryd.prog 18 #[.int .i64 (e : Nat), v] W fun e w' => e = .returned (.tuple #[.string ⟨#[]⟩, .int .i64 1]) ∧ Below W.heap.size W w'
  same : al = 0 → nC = nA
  differ : al ≠ 0 → nC ≠ nA
  least : minPre (kb (x0, y0)) (L.drop 1) = q
  nodeP : 2 ≤ N → ∀ W, Below w.heap.size w W → Calls Tryd.prog 18 #[.int .i64 (q : Nat), .slice (some ⟨g, o, none⟩) N c] W fun e w' => e = .returned (.tuple #[.string nB, .int .i64 0]) ∧ Below W.heap.size W w'
  refP : ∀ W, K.Tabs W → Calls Tryd.prog 14 #[.string nB] W fun e w' => e = .returned (.string xB) ∧ Below W.heap.size W w'
  cut : ∀ W : World, (Instr.sliceAt 9 (.string x0) none (some (.int .i64 (q : Int))) none).run Tryd.prog W = .ok (.string X1) W
  small : a.size + X1.size ≤ 9223372036854775807
  extP : 2 ≤ N → al ≠ 0 → ∀ W, Calls Tryd.prog 10 #[.string (a ++ X1), .string xB] W fun e w' => e = .returned (.tuple #[.string nC, .int .i64 0]) ∧ Below W.heap.size W w'
theorem depth_is {w : World} {g o c m : Nat} {x0 y0 a : ByteArray} {l : List Pr} (hP : PairsAt w (.slice (some ⟨g, o, none⟩) ((x0, y0) :: l).length c) ((x0, y0) :: l)) (hT : K.Tabs w) (hM : Made m ((x0, y0) :: l)) (ha : rightL a.data.toList = true) (h40 : a.size ≤ 40) :
    ∃ N al q e nA nC nB xB X1, DepthIs w g o c N m al q e ((x0, y0) :: l) x0 y0 a nA nC nB xB X1 := by
  have hm := hM.may
  have hx0 := hm.len (x0, y0) List.mem_cons_self
  have hxs : x0.size = m := hx0
  have hm64 := hM.most
  have hfew := hM.few
  have hnib := hm.nib (x0, y0) List.mem_cons_self
  have hms := hm.shift ha
  have hne : ((x0, y0) :: l : List Pr) ≠ [] := by simp
  have hsne : shift a ((x0, y0) :: l) ≠ [] := fun e => hne (shift_nil.1 e)
  have hkeys : ∀ p ∈ ((x0, y0) :: l : List Pr), p.1.size = m := fun p hp => hm.len p hp
  have hk1 : ∀ p ∈ ((x0, y0) :: l : List Pr), p.1.size ≤ 100000 := fun p hp => by rw [hkeys p hp]; omega
  have hv1 : ∀ p ∈ ((x0, y0) :: l : List Pr), p.2.size ≤ 1000000 := fun p hp => by have := hM.vals p hp; omega
  have hk2 : ∀ p ∈ shift a ((x0, y0) :: l), p.1.size ≤ 100000 := fun p hp => by
    have : p.1.size = a.size + m := hms.len p hp
    omega
  have hv2 : ∀ p ∈ shift a ((x0, y0) :: l), p.2.size ≤ 1000000 := fun p hp => by
    obtain ⟨x, hx, rfl⟩ := List.mem_map.1 hp
    exact hv1 x hx
  have hsl : (shift a ((x0, y0) :: l)).length ≤ 100000 := by unfold shift; rw [List.length_map]; omega
  have hll : ((x0, y0) :: l : List Pr).length ≤ 100000 := by omega
  have hal0 : ∀ L : List Pr, Alike 0 L := fun L x _ y _ => by simp
  have hrow : ∀ W, Below w.heap.size w W → PairsAt W (.slice (some ⟨g, o, none⟩) ((x0, y0) :: l).length c) ((x0, y0) :: l) ∧ K.Tabs W := fun W hW => ⟨hP.below hW, hT.below hW⟩
  have hns := node_shift ha (((x0, y0) :: l).length + 1) ((x0, y0) :: l) m 0 (by omega) hm
  obtain ⟨q, hq⟩ : ∃ q, minPre (kb (x0, y0)) l = q := ⟨_, rfl⟩
  have hqm : q ≤ m := by rw [← hq]; have := minPre_le (kb (x0, y0)) l; omega
  have hlcp : 2 ≤ ((x0, y0) :: l).length → Lcp ((x0, y0) :: l) q := fun h2 => by
    have := lcp_minPre hm (l := l) (fun e => by subst e; simp at h2)
    rwa [hq] at this
  have hnl := node_len (d := q) hm (fun p hp => hM.vals p hp)
  have hXd : (x0.extract 0 q).data.toList = (kb (x0, y0)).take q := by rw [extract_data]; rfl
  refine ⟨_, a.size, q, a.size + m + 1, ⟨(node 0 ((x0, y0) :: l)).toArray⟩, ⟨(node 0 (shift a ((x0, y0) :: l))).toArray⟩, ⟨(node q ((x0, y0) :: l)).toArray⟩, ⟨(refN (node q ((x0, y0) :: l))).toArray⟩, x0.extract 0 q, hrow, ⟨rfl, by simp, hfew, hm64, rfl, h40, hxs, rfl, hqm⟩, hkeys, rfl, ?_, ?_, ?_, ?_, ?_, ?_, hq, ?_, ?_, ?_, (by rw [ByteArray.size_extract]; omega), ?_⟩
  · exact fun W hW => node_on 0 _ W _ m (hrow W hW).1 (hrow W hW).2 hm hne (Nat.zero_le _) (hal0 _) hll hk1 hv1
  · intro W v hv hTW
    have h := node_on a.size _ W v _ hv hTW hms hsne (by omega) ?_ hsl hk2 hv2
    · rw [Nat.add_zero] at hns
      rwa [hns] at h
    · intro x hx y hy
      obtain ⟨u, hu, rfl⟩ := List.mem_map.1 hx
      obtain ⟨z, hz, rfl⟩ := List.mem_map.1 hy
      have e : a.size = a.data.toList.length + 0 := rfl
      rw [kb_shift, kb_shift, e]
      exact take_shift _ 0 (by simp)
  · exact fun W v hv hTW => node_on 0 _ W v _ hv hTW hms hsne (Nat.zero_le _) (hal0 _) hsl hk2 hv2
  · exact fun W v hv hTW => node_off _ _ W v _ hv hTW hms hsne (by omega) hsl hk2 hv2
  · intro h0
    rw [h0] at hns
    have hns : node 0 (shift a ((x0, y0) :: l)) = node 0 ((x0, y0) :: l) := hns
    rw [hns]
  · intro h0 e
    refine node_shift_ne ha hm hne h0 h40 ?_
    have := congrArg (fun b : ByteArray => b.data.toList) e
    simpa using this
  · exact fun h2 W hW => node_on q _ W _ m (hrow W hW).1 (hrow W hW).2 hm hne hqm (hlcp h2).alike hll hk1 hv1
  · exact fun W hTW => ref_any ⟨(node q ((x0, y0) :: l)).toArray⟩ W hTW (by show (node q ((x0, y0) :: l)).length ≤ _; omega)
  · exact fun W => slice_cut x0 q (by omega) W
  · intro h2 h0 W
    have hA : (a ++ x0.extract 0 q).data.toList = a.data.toList ++ (kb (x0, y0)).take q := by rw [strcat, hXd]
    have hAs : (a ++ x0.extract 0 q).size ≤ 1000000 := by
      rw [← sizeB, hA, List.length_append, List.length_take, sizeB]; omega
    have hrl := refN_len (node q ((x0, y0) :: l))
    have h := ext_any (a ++ x0.extract 0 q) ⟨(refN (node q ((x0, y0) :: l))).toArray⟩ W hAs (by show (refN (node q ((x0, y0) :: l))).length ≤ _; omega)
    unfold extS okE at h
    rw [hA, right_app _ _ ha (right_take _ _ hnib), if_pos rfl, if_pos rfl] at h
    rw [node_shift0 ha hm (hlcp h2) List.mem_cons_self h0]
    exact h
end Go.Proofs.YtjdhdeffiigpbaaDoor
