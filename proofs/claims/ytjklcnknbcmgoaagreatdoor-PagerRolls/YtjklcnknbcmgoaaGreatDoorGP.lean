/-
  Texts of this claim, put together.
-/
import Derived.Test.YtjklcnknbcmgoaaGreatDoorGO
import Derived.Test.YtjklcnknbcmgoaaGreatDoorGTree2
/-
  What a transaction of the law's does to a pager: pure.
-/
namespace Go.Proofs.YtjklcnknbcmgoaaGreatDoor
open Go Go.RowKit Go.Maps

theorem sub_len : ∀ (a b : List Int), a.Nodup → (∀ x ∈ a, x ∈ b) → a.length ≤ b.length
  | [], b, _, _ => Nat.zero_le _
  | x :: a, b, hn, h => by
    have hx : x ∈ b := h x List.mem_cons_self
    have hn' := List.pairwise_cons.1 hn
    have ih := sub_len a (b.erase x) hn'.2 (fun y hy => by
      rw [List.mem_erase_of_ne (fun e => hn'.1 y hy e.symm)]
      exact h y (List.mem_cons_of_mem _ hy))
    rw [List.length_erase_of_mem hx] at ih
    have := List.length_pos_of_mem hx
    simp only [List.length_cons]
    omega
/-- Numbers from one on. -/
def upto (lo : Int) (k : Nat) : List Int := (List.range k).map (fun i => lo + (i : Nat))
theorem upto_len (lo : Int) (k : Nat) : (upto lo k).length = k := by simp [upto]
theorem upto_nodup (lo : Int) (k : Nat) : (upto lo k).Nodup := by
  unfold upto List.Nodup
  rw [List.pairwise_map]
  exact (List.nodup_range (n := k)).imp (fun h e => h (by omega))
theorem upto_mem {lo : Int} {k : Nat} {x : Int} (h : x ∈ upto lo k) : lo ≤ x ∧ x < lo + k := by
  unfold upto at h
  obtain ⟨i, hi, rfl⟩ := List.mem_map.1 h
  have := List.mem_range.1 hi
  omega
/-- Where nothing is spare, all pages are used or new. -/
theorem full_count {S : St} (iv : PInv S) (hL : S.L = []) {ps al : List Int} (hu : ∀ k, Us S k → k ∈ ps) (hf : ∀ k, (S.Fr k).isSome = true → k ∈ al) : S.P.stop ≤ ps.length + al.length + 2 := by
  have hst := iv.stop
  have h := sub_len (upto 2 (S.P.stop - 2).toNat) (ps ++ al) (upto_nodup _ _) (fun x hx => by
    have hb := upto_mem hx
    have hb2 : x < S.P.stop := by omega
    rw [List.mem_append]
    by_cases hp : x < S.P.pages
    · cases e : S.Fr x with
      | none => exact .inl (hu x ⟨hb.1, hp, (by rw [hL]; intro h; cases h), e⟩)
      | some y => exact .inr (hf x (by rw [e]; rfl))
    · rcases iv.cov x (by omega) hb2 with g | g
      · rw [hL] at g; cases g
      · exact .inr (hf x g))
  rw [upto_len, List.length_append] at h
  omega
theorem keptN_mem (f : Nat → Bool) : ∀ (l : List Int) (k : Nat) (x : Int), x ∈ keptN f k l ↔ ∃ j : Nat, l[j]? = some x ∧ f (k + j) = false
  | [], k, x => by simp [keptN]
  | y :: l, k, x => by
    have ih := keptN_mem f l (k + 1) x
    have key : (∃ j : Nat, (y :: l)[j]? = some x ∧ f (k + j) = false) ↔ (y = x ∧ f k = false) ∨ ∃ j : Nat, l[j]? = some x ∧ f (k + 1 + j) = false := by
      constructor
      · rintro ⟨j, h1, h2⟩
        cases j with
        | zero => exact .inl ⟨by simpa using h1, h2⟩
        | succ j => exact .inr ⟨j, by simpa using h1, by rw [show k + 1 + j = k + (j + 1) by omega]; exact h2⟩
      · rintro (⟨h1, h2⟩ | ⟨j, h1, h2⟩)
        · exact ⟨0, by simpa using h1, h2⟩
        · exact ⟨j + 1, by simpa using h1, by rw [show k + (j + 1) = k + 1 + j by omega]; exact h2⟩
    rw [key, ← ih]
    simp only [keptN]
    cases hf : f k with
    | true => simp
    | false =>
      simp only [List.mem_cons, Bool.false_eq_true, if_false]
      constructor
      · rintro (h | h)
        · exact .inl ⟨h.symm, trivial⟩
        · exact .inr h
      · rintro (⟨h, _⟩ | h)
        · exact .inl h.symm
        · exact .inr h
theorem keptN_sub {α : Type} (f : Nat → Bool) : ∀ (l : List α) (k : Nat), List.Sublist (keptN f k l) l
  | [], _ => List.Sublist.refl _
  | x :: l, k => by
    have ih := keptN_sub f l (k + 1)
    simp only [keptN]
    split
    · exact ih.cons x
    · exact ih.cons_cons x
/-- A pager behind some Allocs and Writes of a transaction. -/
structure P2 (S S1 : St) (c : UInt8) (al : List Int) (ps : List Int) : Prop where
  iv : PInv S1
  fw : Fw S1.D
  us : ∀ k, Us S1 k ↔ Us S k
  fr : ∀ k, (S1.Fr k).isSome = true ↔ k ∈ al
  fd : S1.Fd = S.Fd
  sz : S1.D.size = S.D.size
  pg : S1.P.pages = S.P.pages
  tx : S1.P.tx = S.P.tx
  rd : S1.P.reads = S.P.reads
  used : S1.P.used = true
  nd : al.Nodup
  nu : ∀ k ∈ al, ¬ Us S k ∧ 2 ≤ k ∧ k < S.D.size
  new : ∀ (j : Nat) (k : Int), al[j]? = some k → front S1.D k = K.sealS 84 (textS c j)
  old : ∀ k, k ∉ al → front S1.D k = front S.D k
  st : S1.P.stop ≤ S.P.stop + al.length
  st2 : S1.P.stop ≤ S.P.stop ∨ S1.P.stop ≤ ps.length + al.length + 2
theorem P2.zero {S : St} (iv : PInv S) (fw : Fw S.D) (hu : S.P.used = true) (hf : S.Fr = fun _ => none) (c : UInt8) (ps : List Int) : P2 S S c [] ps :=
  ⟨iv, fw, fun _ => Iff.rfl, fun k => by rw [hf]; simp, rfl, rfl, rfl, rfl, rfl, hu, List.Pairwise.nil, (fun k h => by cases h), (fun j k h => by simp at h), fun _ _ => rfl, (by simp), .inl (Int.le_refl _)⟩
theorem P2.step {S S1 S2 : St} {c : UInt8} {al ps : List Int} (h : P2 S S1 c al ps) (hps : ∀ k, Us S k → k ∈ ps) {n : Int} {D' : Dev}
    (iv : PInv { S2 with D := D' }) (us : ∀ k, Us S2 k ↔ Us S1 k) (fr : S2.Fr = setM S1.Fr n (some ())) (fd : S2.Fd = S1.Fd) (hn : ¬ Us S1 n) (hfn : S1.Fr n = none) (h2 : 2 ≤ n) (hnd : n < S1.D.size) (pg : S2.P.pages = S1.P.pages) (tx : S2.P.tx = S1.P.tx) (st : S2.P.stop = S1.P.stop ∨ S1.L = [] ∧ S2.P.stop = S1.P.stop + 1) (hu : S2.P.used = true) (rd : S2.P.reads = S1.P.reads)
    (sz : D'.size = S2.D.size) (hD : S2.D = S1.D) (fw : Fw D') (f1 : front D' n = K.sealS 84 (textS c al.length)) (f2 : ∀ j, j ≠ n → front D' j = front S2.D j) : P2 S { S2 with D := D' } c (al ++ [n]) ps := by
  have hna : n ∉ al := fun e => by
    have := (h.fr n).2 e
    rw [hfn] at this
    cases this
  refine ⟨iv, fw, fun k => (us k).trans (h.us k), fun k => ?_, fd.trans h.fd, by show D'.size = _; rw [sz, hD, h.sz], pg.trans h.pg, tx.trans h.tx, rd.trans h.rd, hu, ?_, ?_, ?_, ?_, ?_, ?_⟩
  · show (S2.Fr k).isSome = true ↔ _
    rw [fr, List.mem_append, List.mem_singleton, ← h.fr k]
    unfold setM
    by_cases e : k = n
    · rw [if_pos e]; simp [e]
    · rw [if_neg e]; simp [e]
  · rw [List.nodup_append]
    exact ⟨h.nd, by simp, fun a ha b hb e => by
      rw [List.mem_singleton] at hb
      exact hna (by rw [← hb, ← e]; exact ha)⟩
  · intro k hk
    rcases List.mem_append.1 hk with e | e
    · exact h.nu k e
    · rw [List.mem_singleton] at e
      subst e
      exact ⟨fun q => hn ((h.us k).2 q), h2, by rw [← h.sz]; exact hnd⟩
  · intro j k hk
    show front D' k = _
    by_cases hj : j < al.length
    · rw [List.getElem?_append_left hj] at hk
      have hka : k ∈ al := List.mem_of_getElem? hk
      rw [f2 k (fun e => hna (e ▸ hka)), hD]
      exact h.new j k hk
    · rw [List.getElem?_append_right (by omega)] at hk
      have hz : j - al.length = 0 := by
        have := (List.getElem?_eq_some_iff.1 hk).1
        simp at this
        omega
      rw [hz] at hk
      simp at hk
      have : j = al.length := by omega
      subst this
      rw [← hk]
      exact f1
  · intro k hk
    show front D' k = _
    rw [List.mem_append, List.mem_singleton] at hk
    rw [f2 k (fun e => hk (.inr e)), hD]
    exact h.old k (fun e => hk (.inl e))
  · show S2.P.stop ≤ _
    have := h.st
    rw [List.length_append, List.length_singleton]
    rcases st with e | ⟨_, e⟩ <;> omega
  · show S2.P.stop ≤ _ ∨ S2.P.stop ≤ _
    rw [List.length_append, List.length_singleton]
    rcases st with e | ⟨e0, e⟩
    · rcases h.st2 with q | q
      · exact .inl (by omega)
      · exact .inr (by omega)
    · have := full_count h.iv e0 (ps := ps) (al := al) (fun k hk => hps k ((h.us k).1 hk)) (fun k hk => (h.fr k).1 hk)
      exact .inr (by omega)
/-- The texts of a transaction's new pages. -/
def txsN (c : UInt8) (n : Nat) : List ByteArray := (List.range n).map (textS c)
theorem txsN_succ (c : UInt8) (n : Nat) : txsN c (n + 1) = txsN c n ++ [textS c n] := by simp [txsN, List.range_succ]
theorem txsN_len (c : UInt8) (n : Nat) : (txsN c n).length = n := by simp [txsN]
theorem txsN_at {c : UInt8} {n j : Nat} {t : ByteArray} (h : (txsN c n)[j]? = some t) : t = textS c j := by
  unfold txsN at h
  rw [List.getElem?_map] at h
  cases e : (List.range n)[j]? with
  | none => rw [e] at h; cases h
  | some x =>
    rw [e] at h
    have := (List.getElem?_eq_some_iff.1 e)
    obtain ⟨h1, h2⟩ := this
    simp at h2
    subst h2
    simpa using h.symm
/-- The pages of the next state. -/
theorem next_us {S S1 : St} {c : UInt8} {al ps : List Int} {f : Nat → Bool} (h : P2 S S1 c al ps) (nd : ps.Nodup) (us : ∀ n, Us S n ↔ n ∈ ps) (hfd : S.Fd = fdS f ps (fun _ => none)) (k : Int) : ((Us S1 k ∧ S1.Fd k = none) ∨ (S1.Fr k).isSome = true) ↔ k ∈ keptN f 0 ps ++ al := by
  rw [List.mem_append, h.fr k, h.us k, us k, h.fd, hfd, keptN_mem]
  constructor
  · rintro (⟨h1, h2⟩ | h1)
    · left
      obtain ⟨j, hj⟩ := List.getElem?_of_mem h1
      refine ⟨j, hj, ?_⟩
      rw [Nat.zero_add]
      cases e : f j with
      | false => rfl
      | true =>
        rw [fdS_yes ⟨j, hj, e⟩] at h2
        cases h2
    · exact .inr h1
  · rintro (⟨j, hj, h2⟩ | h1)
    · rw [Nat.zero_add] at h2
      exact .inl ⟨List.mem_of_getElem? hj, fdS_kept nd hj h2⟩
    · exact .inr h1
theorem next_nodup {S S1 : St} {c : UInt8} {al ps : List Int} (f : Nat → Bool) (h : P2 S S1 c al ps) (nd : ps.Nodup) (us : ∀ n, Us S n ↔ n ∈ ps) : (keptN f 0 ps ++ al).Nodup := by
  rw [List.nodup_append]
  refine ⟨nd.sublist (keptN_sub f ps 0), h.nd, fun a ha b hb e => ?_⟩
  subst e
  exact (h.nu a hb).1 ((us a).2 ((keptN_sub f ps 0).subset ha))
theorem next_rd {S S1 : St} {c : UInt8} {al ps : List Int} {ts : List ByteArray} (f : Nat → Bool) (h : P2 S S1 c al ps) (us : ∀ n, Us S n ↔ n ∈ ps) (hl : ts.length = ps.length)
    (rd : ∀ (i : Nat) (n : Int) (t : ByteArray), ps[i]? = some n → ts[i]? = some t → t.size ≤ 1013 ∧ front S.D n = K.sealS 84 t) (htx : ∀ j, (textS c j).size ≤ 1013) {D : Dev} (hD : ∀ k, 2 ≤ k → front D k = front S1.D k) (i : Nat) (n : Int) (t : ByteArray)
    (h1 : (keptN f 0 ps ++ al)[i]? = some n) (h2 : (keptN f 0 ts ++ txsN c al.length)[i]? = some t) : t.size ≤ 1013 ∧ front D n = K.sealS 84 t := by
  have hlk := keptN_len f ps ts 0 hl.symm
  by_cases hi : i < (keptN f 0 ps).length
  · rw [List.getElem?_append_left hi] at h1
    rw [List.getElem?_append_left (by omega)] at h2
    obtain ⟨j, a1, a2, a3⟩ := keptN_at f ps ts 0 i n t hl.symm h1 h2
    obtain ⟨r1, r2⟩ := rd j n t a1 a2
    have hu : Us S n := (us n).2 (List.mem_of_getElem? a1)
    refine ⟨r1, ?_⟩
    rw [hD n hu.1, h.old n (fun e => (h.nu n e).1 hu)]
    exact r2
  · rw [List.getElem?_append_right (by omega)] at h1 h2
    rw [← hlk] at h2
    have e := txsN_at h2
    subst e
    have hna : n ∈ al := List.mem_of_getElem? h1
    refine ⟨htx _, ?_⟩
    rw [hD n (h.nu n hna).2.1]
    exact h.new _ n h1
end Go.Proofs.YtjklcnknbcmgoaaGreatDoor
/-
  Steps of plain regions: an append, a store; the law's texts.
-/
namespace Go.Proofs.YtjklcnknbcmgoaaGreatDoor
open Go Go.RowKit Go.Maps

section
variable {ops : Array Oper} {rest : List Oper} {o : Oper} {a : Act} {w : World} {Q : Exit → Act → World → Prop} {v : Value} {base : Nat}
theorem wpList_valW (d : Option Tmp) (hdd : o.dst = d) (hw : Region.wanted o (yielded ops a.tmps) = true) {w' : World} (hv : (execOp a.eval o).run Tryz.prog w = .ok (.value v) w') (h : wpList Tryz.prog ops Q rest (a.put d v) w') : wpList Tryz.prog ops Q (o :: rest) a w :=
  BigFrame.wpList_want hw fun K hK => by
    unfold Oper.wp
    rw [hv]
    show K (a.put o.dst v) w'
    rw [hdd]
    exact hK _ _ h
theorem wpList_appI (d : Option Tmp) (hdd : o.dst = d) (hw : Region.wanted o (yielded ops a.tmps) = true) (s x : Operand)
    (ho : o.op = .call { callee := .builtin .append, args := #[s, x], argTypes := #[31, 31] }) {g : Nat} {t : TypeId} {zs : List Int} {z : Int} (hs : a.eval s = v) (hx : a.eval x = .slice (some ⟨g, 0, none⟩) 1 1) (hown : OI w base v zs) (hl : zs.length < 1000000000) (hbase : base ≤ w.heap.size) (hg : Holds w g t #[.int .i64 z])
    (h : ∀ v' w', OI w' base v' (zs ++ [z]) → w.grownBy w' v.ownBlock → (v'.ownBlock = v.ownBlock ∨ v'.ownBlock = some w.heap.size) → wpList Tryz.prog ops Q rest (a.put d v') w') : wpList Tryz.prog ops Q (o :: rest) a w := by
  obtain ⟨v', w', hr, h2, h3, h4⟩ := app_int hown hl hbase o.type hg
  refine wpList_valW d hdd hw (v := v') (w' := w') ?_ (h v' w' h2 h3 h4)
  unfold execOp
  simp only [ho, resolve, invoke, builtin, Sem.run_bind, Sem.run_pure, Result.andThen_ok, List.map_toArray, List.map_cons, List.map_nil, hs, hx, hr]
theorem wpList_stM (hgd : o.guard = none) (ty : TypeId) (x y : Operand) (ho : o.op = .store ty x y) {ad : Addr} (hx : a.eval x = .pointer (some ad)) (hy : a.eval y = v) {w' : World} (hst : (storeVar ty ad v).run Tryz.prog w = .ok () w') (h : wpList Tryz.prog ops Q rest (a.put o.dst undef) w') : wpList Tryz.prog ops Q (o :: rest) a w :=
  wpList_plain hgd fun _ hK => by
    unfold Oper.wp execOp
    simp only [ho, hx, hy, Instr.storeAt, Instr.sureAddr, Sem.run_bind, Sem.run_pure, Result.andThen_ok, hst]
    exact hK _ _ h
end
/-- A pager between transactions, and the state that the law has of it. -/
structure Sta (G : Nat → Prop) (w0 w : World) (b : Nat) (H : Hs) (S : St) (N : Nat) (tx : Int) (vp vt : Value) (ps : List Int) (ts : List ByteArray) : Prop where
  pk : Pk G w0 w b H S N
  iv : PInv S
  fw : Fw S.D
  used : S.P.used = true
  fr : S.Fr = fun _ => none
  fd : S.Fd = fun _ => none
  st : S.P.stop = S.P.pages
  oi : OI w w0.heap.size vp ps
  ot : OT w w0.heap.size vt ts
  len : ts.length = ps.length
  gp : ∀ k, vp.ownBlock = some k → G k
  gt : ∀ k, vt.ownBlock = some k → G k
  nd : ps.Nodup
  us : ∀ n, Us S n ↔ n ∈ ps
  rd : ∀ (i : Nat) (n : Int) (t : ByteArray), ps[i]? = some n → ts[i]? = some t → t.size ≤ 1013 ∧ front S.D n = K.sealS 84 t
  txe : S.P.tx = tx
  tx0 : 0 ≤ tx

theorem OI.base {w : World} {b1 b2 : Nat} {v : Value} {zs : List Int} (h : OI w b1 v zs) (hb : b2 ≤ b1) : OI w b2 v zs := by
  refine ⟨h.1, ?_⟩
  rcases h.2 with q | ⟨g, cap, cur, e, hb', q⟩
  · exact .inl q
  · exact .inr ⟨g, cap, cur, e, Nat.le_trans hb hb', q⟩
theorem OT.base {w : World} {b1 b2 : Nat} {v : Value} {zs : List ByteArray} (h : OT w b1 v zs) (hb : b2 ≤ b1) : OT w b2 v zs := by
  refine ⟨h.1, ?_⟩
  rcases h.2 with q | ⟨g, cap, cur, e, hb', q⟩
  · exact .inl q
  · exact .inr ⟨g, cap, cur, e, Nat.le_trans hb hb', q⟩
def GS (G : Nat → Prop) (vp vt : Value) (k : Nat) : Prop := G k ∨ vp.ownBlock = some k ∨ vt.ownBlock = some k
/-- What a transaction leaves. -/
def PlaysPost (G : Nat → Prop) (w0 w : World) (b : Nat) (S : St) (N : Nat) (tx : Int) (vp vt : Value) (ps : List Int) (ts : List ByteArray) (e : Ending) (w' : World) : Prop :=
  ∃ (ok : Bool) (tx' : Int) (vp' vt' : Value) (ps' : List Int) (ts' : List ByteArray) (H' : Hs) (S' : St) (N' : Nat), e = .returned (.tuple #[.agg #[.int .i64 tx', vp', vt'], .bool ok]) ∧ Sta (GS G vp' vt') w0 w' b H' S' N' tx' vp' vt' ps' ts' ∧ SameG G w w' ∧ N' ≤ N + 8 ∧ ps'.length ≤ ps.length + 5 ∧ tx' ≤ tx + 1 ∧ S'.D.size = S.D.size ∧ S'.P.stop ≤ S.P.stop + 5 ∧ (S'.P.stop ≤ S.P.stop ∨ S'.P.stop ≤ ps.length + 7) ∧ S'.P.reads = S.P.reads ∧ (ok = false → tx' = tx ∧ vp' = vp ∧ vt' = vt ∧ ps' = ps ∧ ts' = ts)
section
variable {G : Nat → Prop} {w0 w w' : World} {b : Nat} {H : Hs} {S S1 S2 : St} {N : Nat} {tx : Int} {vp vt : Value} {ps al : List Int} {ts : List ByteArray} {c : UInt8} {f : Nat → Bool}
theorem sta_roll (s : Sta G w0 w b H S N tx vp vt ps ts) (h1 : S1.P = S.P) (h5 : S1.D = S.D) (h6 : ∀ k, Us S1 k ↔ k ∈ ps) (p2 : P2 S1 S2 c al ps) {S' : St} {H' : Hs} {N' : Nat} (p' : Pk (GS G vp vt) w0 w' b H' S' N') (sm : SameG G w w') (i' : PInv S') (us' : ∀ k, Us S2 k ↔ Us S' k) (fr' : S'.Fr = fun _ => none) (fd' : S'.Fd = fun _ => none) (D' : S'.D = S2.D) (P' : S'.P = { S2.P with used := true, stop := S2.P.pages, count := totR S'.L }) : Sta (GS G vp vt) w0 w' b H' S' N' tx vp vt ps ts := by
  have hus : ∀ k, Us S' k ↔ k ∈ ps := fun k => (us' k).symm.trans ((p2.us k).trans (h6 k))
  refine ⟨p', i', by rw [D']; exact p2.fw, by rw [P'], fr', fd', by rw [P'], s.oi.block (fun k hk => sm k (s.gp k hk)), s.ot.block (fun k hk => sm k (s.gt k hk)), s.len, fun k hk => .inr (.inl hk), fun k hk => .inr (.inr hk), s.nd, hus, fun i n t hi ht => ?_, by rw [P']; show S2.P.tx = tx; rw [p2.tx, h1]; exact s.txe, s.tx0⟩
  obtain ⟨r1, r2⟩ := s.rd i n t hi ht
  refine ⟨r1, ?_⟩
  rw [D', p2.old n (fun e => (p2.nu n e).1 ((h6 n).2 (List.mem_of_getElem? hi))), h5]
  exact r2
theorem sta_commit (s : Sta G w0 w b H S N tx vp vt ps ts) (h1 : S1.P = S.P) (h4 : S1.Fd = fdS f ps (fun _ => none)) (h5 : S1.D = S.D) (h6 : ∀ k, Us S1 k ↔ k ∈ ps) (p2 : P2 S1 S2 c al ps) {S' : St} {H' : Hs} {N' : Nat} {vp' vt' : Value} (p' : Pk (GS G vp' vt') w0 w' b H' S' N') (oi : OI w' w.heap.size vp' (keptN f 0 ps ++ al)) (ot : OT w' w.heap.size vt' (keptN f 0 ts ++ txsN c al.length)) (i' : PInv S') (us' : ∀ k, ((Us S2 k ∧ S2.Fd k = none) ∨ (S2.Fr k).isSome = true) ↔ Us S' k) (fr' : S'.Fr = fun _ => none) (fd' : S'.Fd = fun _ => none) (htx : S'.P.tx = S2.P.tx + 1) (hpg : S'.P.pages = S2.P.stop) (hst : S'.P.stop = S2.P.stop) (hu : S'.P.used = true) (fw : Fw S'.D) (hf : ∀ k, 2 ≤ k → front S'.D k = front S2.D k) : Sta (GS G vp' vt') w0 w' b H' S' N' (tx + 1) vp' vt' (keptN f 0 ps ++ al) (keptN f 0 ts ++ txsN c al.length) := by
  have hwid : w0.heap.size ≤ w.heap.size := s.pk.blw.size
  refine ⟨p', i', fw, hu, fr', fd', hst.trans hpg.symm, oi.base hwid, ot.base hwid, ?_, fun k hk => .inr (.inl hk), fun k hk => .inr (.inr hk), next_nodup f p2 s.nd h6, fun k => (us' k).symm.trans (next_us p2 s.nd h6 h4 k), fun i n t hi ht => next_rd f p2 h6 s.len (fun i n t hi ht => by rw [h5]; exact s.rd i n t hi ht) (fun j => by rw [textS_size]; omega) hf i n t hi ht, by rw [htx, p2.tx, h1, s.txe], by have := s.tx0; omega⟩
  rw [List.length_append, List.length_append, txsN_len, keptN_len f ts ps 0 s.len]
end
theorem results_cellG2 {P : Program} {fn : Func} {p u : Tmp} {ty : TypeId} (h : fn.results = #[.cell p ty, .tmp u]) (tmps : Array Value) (w : World) (b : Nat) (t : TypeId) (cs : Array Value) (d : TypeDesc)
    (hp : tmps.getD p undef = .pointer (some ⟨b, 0, none⟩)) (hh : Holds w b t cs)
    (hu : P.underlying ty = some d) (hd : d.isRow = true) (hi : (P.info? ty).map (·.size) = some cs.size) : (results fn tmps).run P w = .ok (.tuple #[.agg cs, tmps.getD u undef]) w := by
  have hr := run_loadVar_row w b t ty cs (0, 0) d hh hu (by cases d <;> simp_all) hi
  rw [results_cell_tmp h, hp]
  simp [asAddr, hr]
theorem ldStG {w : World} {g : Nat} {a b c : Value} (h : Holds w g 34 #[a, b, c]) : (loadVar 34 ⟨g, 0, none⟩).run Tryz.prog w = .ok (.agg #[a, b, c]) w :=
  run_loadVar_row w g 34 34 #[a, b, c] (0, 0) _ h Tryz.underlying34 (by simp) infoStG
theorem wrap_smallG (k : Nat) (h : k < 1000) : wrap64 (k : Int) = (k : Int) := by
  unfold wrap64
  omega
end Go.Proofs.YtjklcnknbcmgoaaGreatDoor
