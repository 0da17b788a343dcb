/-
  Texts of this claim, put together.
-/
import Derived.Test.YtjklcnknbcmgoaaGreatDoorGLawP
/-
  What pages come next, and how many are spare, hang on the set of spare pages alone: pure.
-/
namespace Go.Proofs.YtjklcnknbcmgoaaGreatDoor
open Go Go.RowKit Go.Maps

theorem mem_upto {lo : Int} {k : Nat} {x : Int} : x ∈ upto lo k ↔ lo ≤ x ∧ x < lo + k := by
  refine ⟨upto_mem, fun h => ?_⟩
  unfold upto
  exact List.mem_map.2 ⟨(x - lo).toNat, List.mem_range.2 (by omega), by omega⟩
/-- The pages of runs. -/
def elemsR : Runs → List Int
  | [] => []
  | r :: L => upto r.1 (r.2 - r.1).toNat ++ elemsR L
theorem elemsR_mem (L : Runs) (hs : Srt L) (x : Int) : x ∈ elemsR L ↔ inR L x := by
  induction L with
  | nil => simp [elemsR, inR]
  | cons r L ih =>
    have := hs.1
    simp only [elemsR, inR, List.mem_append, mem_upto, ih hs.2.2]
    constructor
    · rintro (h | h)
      · exact .inl (by omega)
      · exact .inr h
    · rintro (h | h)
      · exact .inl (by omega)
      · exact .inr h
theorem elemsR_len (L : Runs) (hs : Srt L) : ((elemsR L).length : Int) = totR L := by
  induction L with
  | nil => rfl
  | cons r L ih =>
    have := hs.1
    have := ih hs.2.2
    simp only [elemsR, totR, List.length_append, upto_len]
    omega
theorem elemsR_nodup (L : Runs) (hs : Srt L) : (elemsR L).Nodup := by
  induction L with
  | nil => exact List.Pairwise.nil
  | cons r L ih =>
    simp only [elemsR]
    rw [List.nodup_append]
    refine ⟨upto_nodup _ _, ih hs.2.2, fun a ha b hb e => ?_⟩
    have h1 := mem_upto.1 ha
    obtain ⟨q, hq, h2, h3⟩ := inR_iff.1 ((elemsR_mem L hs.2.2 b).1 hb)
    have := hs.2.1 q hq
    have := hs.1
    omega
theorem totR_ext {L M : Runs} (hL : Srt L) (hM : Srt M) (h : ∀ n, inR L n ↔ inR M n) : totR L = totR M := by
  have h1 := sub_len (elemsR L) (elemsR M) (elemsR_nodup L hL) (fun x hx => (elemsR_mem M hM x).2 ((h x).1 ((elemsR_mem L hL x).1 hx)))
  have h2 := sub_len (elemsR M) (elemsR L) (elemsR_nodup M hM) (fun x hx => (elemsR_mem L hL x).2 ((h x).2 ((elemsR_mem M hM x).1 hx)))
  rw [← elemsR_len L hL, ← elemsR_len M hM]
  omega
/-- Two pagers with the same spare pages. -/
structure Twin (S T : St) : Prop where
  set : ∀ n, inR S.L n ↔ inR T.L n
  stop : S.P.stop = T.P.stop
  size : S.D.size = T.D.size
theorem alloc_cons {S : St} (h : PInv S) {q : Int × Int} {L : Runs} (hL : S.L = q :: L) : (allocS S).1 = q.1 ∧ (allocS S).2.2.L = tookR S.L ∧ (allocS S).2.2.P.stop = S.P.stop ∧ (allocS S).2.2.D = S.D := by
  unfold allocS
  rw [if_neg (by rw [h.br]; simp)]
  split
  · rename_i q' L' e
    rw [hL] at e
    injection e with e1 e2
    subst e1
    exact ⟨rfl, rfl, rfl, rfl⟩
  · rename_i e
    rw [hL] at e
    cases e
theorem alloc_nil {S : St} (h : PInv S) (hL : S.L = []) (hroom : S.P.stop < S.D.size) : (allocS S).1 = S.P.stop ∧ (allocS S).2.2.L = tookR S.L ∧ (allocS S).2.2.P.stop = S.P.stop + 1 ∧ (allocS S).2.2.D = S.D := by
  unfold allocS
  rw [if_neg (by rw [h.br]; simp)]
  split
  · rename_i q' L' e
    rw [hL] at e
    cases e
  · rw [if_neg (by omega)]
    exact ⟨rfl, rfl, rfl, rfl⟩
theorem alloc_rest (S : St) : (allocS S).2.2.P.root = S.P.root ∧ (allocS S).2.2.P.entries = S.P.entries := by
  unfold allocS
  split
  · exact ⟨rfl, rfl⟩
  · split
    · exact ⟨rfl, rfl⟩
    · split <;> exact ⟨rfl, rfl⟩
theorem least_in {q : Int × Int} {L : Runs} (hs : Srt (q :: L)) : inR (q :: L) q.1 ∧ ∀ n, inR (q :: L) n → q.1 ≤ n := by
  have := hs.1
  refine ⟨.inl ⟨Int.le_refl _, by omega⟩, fun n hn => ?_⟩
  rcases hn with h | h
  · exact h.1
  · obtain ⟨x, hx, h1, h2⟩ := inR_iff.1 h
    have := hs.2.1 x hx
    omega
theorem alloc_twin {S T : St} (hS : PInv S) (hT : PInv T) (t : Twin S T) (hroom : S.P.stop < S.D.size) : (allocS S).1 = (allocS T).1 ∧ Twin (allocS S).2.2 (allocS T).2.2 := by
  have srS := hS.srt
  have srT := hT.srt
  cases eS : S.L with
  | nil =>
    cases eT : T.L with
    | nil =>
      obtain ⟨a1, a2, a3, a4⟩ := alloc_nil hS eS hroom
      obtain ⟨b1, b2, b3, b4⟩ := alloc_nil hT eT (by rw [← t.stop, ← t.size]; exact hroom)
      exact ⟨by rw [a1, b1, t.stop], ⟨fun n => by rw [a2, b2, eS, eT], by rw [a3, b3, t.stop], by rw [a4, b4, t.size]⟩⟩
    | cons q L =>
      rw [eT] at srT
      have := (t.set q.1).2 (by rw [eT]; exact (least_in srT).1)
      rw [eS] at this
      cases this
  | cons r K =>
    rw [eS] at srS
    cases eT : T.L with
    | nil =>
      have := (t.set r.1).1 (by rw [eS]; exact (least_in srS).1)
      rw [eT] at this
      cases this
    | cons q L =>
      rw [eT] at srT
      obtain ⟨a1, a2, a3, a4⟩ := alloc_cons hS eS
      obtain ⟨b1, b2, b3, b4⟩ := alloc_cons hT eT
      have h1 := (least_in srT).2 r.1 (by rw [← eT]; exact (t.set r.1).1 (by rw [eS]; exact (least_in srS).1))
      have h2 := (least_in srS).2 q.1 (by rw [← eS]; exact (t.set q.1).2 (by rw [eT]; exact (least_in srT).1))
      have hrq : r.1 = q.1 := by omega
      refine ⟨by rw [a1, b1, hrq], ⟨fun n => ?_, by rw [a3, b3, t.stop], by rw [a4, b4, t.size]⟩⟩
      rw [a2, b2, eS, eT, inR_took srS, inR_took srT, hrq, ← eS, ← eT, t.set n]
/-- A pager behind so many Allocs, and the pages that they told. -/
def alT : Nat → St → St
  | 0, S => S
  | j + 1, S => (allocS (alT j S)).2.2
def alL : Nat → St → List Int
  | 0, _ => []
  | j + 1, S => alL j S ++ [(allocS (alT j S)).1]
theorem alL_len (S : St) : ∀ j, (alL j S).length = j
  | 0 => rfl
  | j + 1 => by simp [alL, alL_len S j]
structure AlI (S T : St) (al : List Int) : Prop where
  iv : PInv T
  us : ∀ k, Us T k ↔ Us S k
  dev : T.D = S.D
  fd : T.Fd = S.Fd
  fr : ∀ k, (T.Fr k).isSome = true ↔ k ∈ al
  nd : al.Nodup
  stop : T.P.stop ≤ S.P.stop + al.length
  lo : ∀ k ∈ al, 2 ≤ k ∧ k < 65536
  pages : T.P.pages = S.P.pages
  tx : T.P.tx = S.P.tx
  root : T.P.root = S.P.root
  ents : T.P.entries = S.P.entries
  reads : T.P.reads = S.P.reads
  used : T.P.used = true
theorem alI_zero {S : St} (iv : PInv S) (hf : S.Fr = fun _ => none) (hu : S.P.used = true) : AlI S S [] :=
  ⟨iv, fun _ => Iff.rfl, rfl, rfl, fun k => by rw [hf]; simp, List.Pairwise.nil, by simp, (fun k h => by cases h), rfl, rfl, rfl, rfl, rfl, hu⟩
theorem alI_all {S : St} (iv : PInv S) (hf : S.Fr = fun _ => none) (hu : S.P.used = true) (hz : S.D.size ≤ 65536) : ∀ j : Nat, S.P.stop + j ≤ S.D.size → AlI S (alT j S) (alL j S)
  | 0, _ => alI_zero iv hf hu
  | j + 1, h => by
    have ih := alI_all iv hf hu hz j (by omega)
    have hst := ih.stop
    rw [alL_len] at hst
    obtain ⟨e1, e2, e3, e4, e5, e6, e7, e8, e9, e10, e11, e12, e13, e14, e15⟩ := alloc_inv ih.iv (by rw [ih.dev]; omega) (by rw [ih.dev]; exact hz)
    have er := alloc_rest (alT j S)
    have hna : (allocS (alT j S)).1 ∉ alL j S := fun e => by
      have := (ih.fr _).2 e
      rw [e8] at this
      cases this
    refine ⟨e2, fun k => (e3 k).trans (ih.us k), e6.trans ih.dev, e5.trans ih.fd, fun k => ?_, ?_, ?_, ?_, e11.trans ih.pages, e12.trans ih.tx, er.1.trans ih.root, er.2.trans ih.ents, e15.trans ih.reads, e14⟩
    · show ((allocS (alT j S)).2.2.Fr k).isSome = true ↔ k ∈ alL j S ++ [(allocS (alT j S)).1]
      rw [e4, List.mem_append, List.mem_singleton, ← ih.fr k]
      unfold setM
      by_cases e : k = (allocS (alT j S)).1
      · rw [if_pos e]; simp [e]
      · rw [if_neg e]; simp [e]
    · show (alL j S ++ [(allocS (alT j S)).1]).Nodup
      rw [List.nodup_append]
      exact ⟨ih.nd, by simp, fun a ha b hb e => by
        rw [List.mem_singleton] at hb
        exact hna (by rw [← hb, ← e]; exact ha)⟩
    · show (allocS (alT j S)).2.2.P.stop ≤ S.P.stop + ((alL j S ++ [(allocS (alT j S)).1]).length : Nat)
      rw [List.length_append, alL_len, List.length_singleton]
      rcases e13 with e | ⟨_, e⟩ <;> omega
    · intro k hk
      rcases List.mem_append.1 hk with e | e
      · exact ih.lo k e
      · rw [List.mem_singleton] at e
        subst e
        have := ih.dev
        rw [this] at e10
        exact ⟨e9, by omega⟩
theorem twin_all {S T : St} (ivS : PInv S) (ivT : PInv T) (hfS : S.Fr = fun _ => none) (hfT : T.Fr = fun _ => none) (huS : S.P.used = true) (huT : T.P.used = true) (hz : S.D.size ≤ 65536) (t : Twin S T) : ∀ j : Nat, S.P.stop + j ≤ S.D.size → alL j S = alL j T ∧ Twin (alT j S) (alT j T)
  | 0, _ => ⟨rfl, t⟩
  | j + 1, h => by
    obtain ⟨h1, h2⟩ := twin_all ivS ivT hfS hfT huS huT hz t j (by omega)
    have aS := alI_all ivS hfS huS hz j (by omega)
    have aT := alI_all ivT hfT huT (by rw [← t.size]; exact hz) j (by rw [← t.stop, ← t.size]; omega)
    have hst := aS.stop
    rw [alL_len] at hst
    obtain ⟨g1, g2⟩ := alloc_twin aS.iv aT.iv h2 (by rw [aS.dev]; omega)
    exact ⟨by show alL j S ++ [_] = alL j T ++ [_]; rw [h1, g1], g2⟩
/-- States with the same pages have the same spare ones. -/
theorem twin_of {S T : St} (ivS : PInv S) (ivT : PInv T) (hfS : S.Fr = fun _ => none) (hfT : T.Fr = fun _ => none) (us : ∀ k, Us S k ↔ Us T k) (pg : S.P.pages = T.P.pages) (sS : S.P.stop = S.P.pages) (sT : T.P.stop = T.P.pages) (sz : S.D.size = T.D.size) : Twin S T := by
  refine ⟨fun n => ?_, by rw [sS, sT, pg], sz⟩
  have key : ∀ {A : St}, PInv A → A.P.stop = A.P.pages → (A.Fr = fun _ => none) → (inR A.L n ↔ 2 ≤ n ∧ n < A.P.pages ∧ ¬ Us A n) := fun {A} iA sA fA => by
    constructor
    · intro h
      have := iA.inR h
      exact ⟨this.1, by omega, fun u => u.2.2.1 h⟩
    · rintro ⟨h1, h2, h3⟩
      refine Classical.byContradiction (fun h => h3 ⟨h1, h2, h, by rw [fA]⟩)
  rw [key ivS sS hfS, key ivT sT hfT, us n, pg]
/-- A pager that was rolled back. -/
structure RG (S T : St) : Prop where
  iv : PInv T
  fr : T.Fr = fun _ => none
  fd : T.Fd = fun _ => none
  us : ∀ k, Us T k ↔ Us S k
  pages : T.P.pages = S.P.pages
  stop : T.P.stop = T.P.pages
  tx : T.P.tx = S.P.tx
  root : T.P.root = S.P.root
  ents : T.P.entries = S.P.entries
  cnt : T.P.count = S.P.count
  dev : T.D = S.D
  reads : T.P.reads = S.P.reads
  used : T.P.used = true
theorem RG.twin {S T : St} (h : RG S T) (ivS : PInv S) (hfS : S.Fr = fun _ => none) (sS : S.P.stop = S.P.pages) : Twin S T :=
  twin_of ivS h.iv hfS h.fr (fun k => (h.us k).symm) h.pages.symm sS h.stop (by rw [h.dev])
theorem RG.self {S : St} (iv : PInv S) (fr : S.Fr = fun _ => none) (fd : S.Fd = fun _ => none) (st : S.P.stop = S.P.pages) (hu : S.P.used = true) : RG S S :=
  ⟨iv, fr, fd, fun _ => Iff.rfl, rfl, st, rfl, rfl, rfl, rfl, rfl, rfl, hu⟩
/-- Behind Allocs, Frees and a Rollback. -/
theorem RG.next {S T : St} (h : RG S T) (ivS : PInv S) (hfS : S.Fr = fun _ => none) (sS : S.P.stop = S.P.pages) (cS : S.P.count = totR S.L) {al : List Int} {U V : St} (a : AlI T U al) (uP : V.P = U.P) (uD : V.D = U.D) (uU : ∀ k, Us V k ↔ Us U k) {S' : St} (i' : PInv S') (us' : ∀ k, Us V k ↔ Us S' k) (fr' : S'.Fr = fun _ => none) (fd' : S'.Fd = fun _ => none) (D' : S'.D = V.D) (P' : S'.P = { V.P with used := true, stop := V.P.pages, count := totR S'.L }) : RG S S' := by
  have us : ∀ k, Us S' k ↔ Us S k := fun k => (us' k).symm.trans ((uU k).trans ((a.us k).trans (h.us k)))
  have pg : S'.P.pages = S.P.pages := by rw [P']; show V.P.pages = _; rw [uP, a.pages, h.pages]
  have st : S'.P.stop = S'.P.pages := by rw [P']
  have dv : S'.D = S.D := by rw [D', uD, a.dev, h.dev]
  have tw := twin_of ivS i' hfS fr' (fun k => (us k).symm) pg.symm sS st (by rw [dv])
  refine ⟨i', fr', fd', us, pg, st, ?_, ?_, ?_, ?_, dv, ?_, by rw [P']⟩
  · rw [P']; show V.P.tx = _; rw [uP, a.tx, h.tx]
  · rw [P']; show V.P.root = _; rw [uP, a.root, h.root]
  · rw [P']; show V.P.entries = _; rw [uP, a.ents, h.ents]
  · rw [P', cS]
    exact totR_ext i'.srt ivS.srt (fun n => (tw.set n).symm)
  · rw [P']; show V.P.reads = _; rw [uP, a.reads, h.reads]
end Go.Proofs.YtjklcnknbcmgoaaGreatDoor
/-
  PagerRolls' memory: the pager, the boxes, the two rows that were got.
-/
namespace Go.Proofs.YtjklcnknbcmgoaaGreatDoor
open Go Go.RowKit Go.Maps

theorem info2S : (Tryz.prog.info? 54).map (·.size) = some 2 := by kernel_rfl
def GR (G : Nat → Prop) (gm gg : Nat) (v0 v1 : Value) (k : Nat) : Prop := G k ∨ (k = gm ∨ k = gg) ∨ v0.ownBlock = some k ∨ v1.ownBlock = some k
structure RM (G : Nat → Prop) (w0 w wr : World) (b : Nat) (H : Hs) (T : St) (N : Nat) (gm gg : Nat) (cm : Array Value) (v0 v1 : Value) (l0 l1 : List Int) : Prop where
  pk : Pk (GR G gm gg v0 v1) w0 wr b H T N
  bm : Holds wr gm 43 cm
  bg : Holds wr gg 54 #[v0, v1]
  o0 : OI wr w.heap.size v0 l0
  o1 : OI wr w.heap.size v1 l1
  ne : ∀ k, v0.ownBlock = some k → v1.ownBlock ≠ some k
  same : SameG G w wr
  dist : w.heap.size ≤ gm ∧ w.heap.size ≤ gg
  wid : w0.heap.size ≤ w.heap.size ∧ ∀ k, G k → k < w.heap.size
section
variable {G : Nat → Prop} {w0 w wr : World} {b : Nat} {H : Hs} {T : St} {N : Nat} {gm gg : Nat} {cm : Array Value} {v0 v1 : Value} {l0 l1 : List Int}
theorem RM.call (h : RM G w0 w wr b H T N gm gg cm v0 v1 l0 l1) {w' : World} {H' : Hs} {T' : St} {N' : Nat} (p : Pk (GR G gm gg v0 v1) w0 w' b H' T' N') (s : SameG (GR G gm gg v0 v1) wr w') : RM G w0 w w' b H' T' N' gm gg cm v0 v1 l0 l1 :=
  ⟨p, s.holds h.bm (.inr (.inl (.inl rfl))), s.holds h.bg (.inr (.inl (.inr rfl))), h.o0.block (fun k hk => s k (.inr (.inr (.inl hk)))), h.o1.block (fun k hk => s k (.inr (.inr (.inr hk)))), h.ne, fun k hk => (s k (.inl hk)).trans (h.same k hk), h.dist, h.wid⟩
theorem RM.below (h : RM G w0 w wr b H T N gm gg cm v0 v1 l0 l1) {w' : World} (hB : Below wr.heap.size wr w') : RM G w0 w w' b H T N gm gg cm v0 v1 l0 l1 :=
  h.call (h.pk.below hB) (fun k hk => hB.block k (h.pk.kept k hk))
theorem RM.size (h : RM G w0 w wr b H T N gm gg cm v0 v1 l0 l1) : w.heap.size ≤ wr.heap.size := by
  have h1 := h.bm.lt
  have h2 := h.dist.1
  omega
/-- The first row has grown by one. -/
theorem RM.app0 (h : RM G w0 w wr b H T N gm gg cm v0 v1 l0 l1) {v : Value} {z : Int} {w1 w2 : World} (hoi : OI w1 w.heap.size v (l0 ++ [z])) (hg : wr.grownBy w1 v0.ownBlock) (hv : v.ownBlock = v0.ownBlock ∨ v.ownBlock = some wr.heap.size) (hO : Only gg w1 w2) (hh : Holds w2 gg 54 #[v, v1]) : RM G w0 w w2 b H T N gm gg cm v v1 (l0 ++ [z]) l1 := by
  obtain ⟨d1, d2⟩ := h.dist
  have nrow : ∀ {k : Nat} {t : TypeId} {cs : Array Value}, Holds wr k t cs → t ≠ 3 → v0.ownBlock ≠ some k := fun hk ht e => by
    obtain ⟨cur, hc⟩ := h.o0.obj e
    exact hk.ne hc ht rfl
  have k1 := grown_keep hg
  have q1 := h.pk.turn k1 (fun k hk => by
    obtain ⟨cur, hc⟩ := h.o0.obj hk
    exact ⟨.inr (.inr (.inl hk)), Nat.le_trans h.wid.1 (h.o0.new k hk).1, _, _, hc, by decide, by decide⟩)
  have bm1 := k1.holds h.bm (nrow h.bm (by decide))
  have bg1 := k1.holds h.bg (nrow h.bg (by decide))
  have q2 := q1.turn (T := fun k => k = gg) (Keep.only hO rfl) (fun k hk => by
    subst hk
    exact ⟨.inr (.inl (.inr rfl)), Nat.le_trans h.wid.1 d2, _, _, bg1, by decide, by decide⟩)
  have hn1 : ∀ k, v1.ownBlock = some k → w2.heap[k]? = wr.heap[k]? := fun k hk => by
    obtain ⟨cur, hc⟩ := h.o1.obj hk
    have nn : v0.ownBlock ≠ some k := fun e => h.ne k e hk
    have e1 := k1.holds hc nn
    have n4 : k ≠ gg := e1.ne bg1 (by decide)
    rw [hO.block k e1.lt n4, k1.block k hc.lt nn]
  have hnv : ∀ k, v.ownBlock = some k → k ≠ gg := fun k hk => by
    obtain ⟨cur, hc⟩ := hoi.obj hk
    exact hc.ne bg1 (by decide)
  refine ⟨⟨q2.at_, fun k hf => ⟨(q2.foot k hf).1, ?_⟩, q2.blw, ?_, q2.ok, q2.cm, q2.br⟩, hO.holds bm1 (bm1.ne bg1 (by decide)), hh, hoi.block (fun k hk => hO.block k (hoi.new k hk).2 (hnv k hk)), h.o1.block hn1, fun k hk hk1 => ?_, fun k hk => ?_, h.dist, h.wid⟩
  · rintro (g | g | g | g)
    · exact (q2.foot k hf).2 (.inl g)
    · exact (q2.foot k hf).2 (.inr (.inl g))
    · rcases hv with e | e
      · exact (q2.foot k hf).2 (.inr (.inr (.inl (e ▸ g))))
      · rw [e] at g
        injection g with g
        have := h.pk.at_.lt k hf.blk
        omega
    · exact (q2.foot k hf).2 (.inr (.inr (.inr g)))
  · rintro k (g | g | g | g)
    · exact q2.kept k (.inl g)
    · exact q2.kept k (.inr (.inl g))
    · exact Nat.lt_of_lt_of_le (hoi.new k g).2 hO.size
    · exact q2.kept k (.inr (.inr (.inr g)))
  · rcases hv with e | e
    · exact h.ne k (e ▸ hk) hk1
    · rw [e] at hk
      injection hk with hk
      have := (h.o1.new k hk1).2
      omega
  · have hlt := h.wid.2 k hk
    have hlt2 := h.pk.kept k (.inl hk)
    rw [hO.block k (Nat.lt_of_lt_of_le hlt2 k1.size) (by omega), k1.block k hlt2 (fun e => by have := (h.o0.new k e).1; omega)]
    exact h.same k hk
/-- The second row has grown by one. -/
theorem RM.app1 (h : RM G w0 w wr b H T N gm gg cm v0 v1 l0 l1) {v : Value} {z : Int} {w1 w2 : World} (hoi : OI w1 w.heap.size v (l1 ++ [z])) (hg : wr.grownBy w1 v1.ownBlock) (hv : v.ownBlock = v1.ownBlock ∨ v.ownBlock = some wr.heap.size) (hO : Only gg w1 w2) (hh : Holds w2 gg 54 #[v0, v]) : RM G w0 w w2 b H T N gm gg cm v0 v l0 (l1 ++ [z]) := by
  obtain ⟨d1, d2⟩ := h.dist
  have nrow : ∀ {k : Nat} {t : TypeId} {cs : Array Value}, Holds wr k t cs → t ≠ 3 → v1.ownBlock ≠ some k := fun hk ht e => by
    obtain ⟨cur, hc⟩ := h.o1.obj e
    exact hk.ne hc ht rfl
  have k1 := grown_keep hg
  have q1 := h.pk.turn k1 (fun k hk => by
    obtain ⟨cur, hc⟩ := h.o1.obj hk
    exact ⟨.inr (.inr (.inr hk)), Nat.le_trans h.wid.1 (h.o1.new k hk).1, _, _, hc, by decide, by decide⟩)
  have bm1 := k1.holds h.bm (nrow h.bm (by decide))
  have bg1 := k1.holds h.bg (nrow h.bg (by decide))
  have q2 := q1.turn (T := fun k => k = gg) (Keep.only hO rfl) (fun k hk => by
    subst hk
    exact ⟨.inr (.inl (.inr rfl)), Nat.le_trans h.wid.1 d2, _, _, bg1, by decide, by decide⟩)
  have hn1 : ∀ k, v0.ownBlock = some k → w2.heap[k]? = wr.heap[k]? := fun k hk => by
    obtain ⟨cur, hc⟩ := h.o0.obj hk
    have nn : v1.ownBlock ≠ some k := h.ne k hk
    have e1 := k1.holds hc nn
    have n4 : k ≠ gg := e1.ne bg1 (by decide)
    rw [hO.block k e1.lt n4, k1.block k hc.lt nn]
  have hnv : ∀ k, v.ownBlock = some k → k ≠ gg := fun k hk => by
    obtain ⟨cur, hc⟩ := hoi.obj hk
    exact hc.ne bg1 (by decide)
  refine ⟨⟨q2.at_, fun k hf => ⟨(q2.foot k hf).1, ?_⟩, q2.blw, ?_, q2.ok, q2.cm, q2.br⟩, hO.holds bm1 (bm1.ne bg1 (by decide)), hh, h.o0.block hn1, hoi.block (fun k hk => hO.block k (hoi.new k hk).2 (hnv k hk)), fun k hk hk1 => ?_, fun k hk => ?_, h.dist, h.wid⟩
  · rintro (g | g | g | g)
    · exact (q2.foot k hf).2 (.inl g)
    · exact (q2.foot k hf).2 (.inr (.inl g))
    · exact (q2.foot k hf).2 (.inr (.inr (.inl g)))
    · rcases hv with e | e
      · exact (q2.foot k hf).2 (.inr (.inr (.inr (e ▸ g))))
      · rw [e] at g
        injection g with g
        have := h.pk.at_.lt k hf.blk
        omega
  · rintro k (g | g | g | g)
    · exact q2.kept k (.inl g)
    · exact q2.kept k (.inr (.inl g))
    · exact q2.kept k (.inr (.inr (.inl g)))
    · exact Nat.lt_of_lt_of_le (hoi.new k g).2 hO.size
  · rcases hv with e | e
    · exact h.ne k hk (e ▸ hk1)
    · rw [e] at hk1
      injection hk1 with hk1
      have := (h.o0.new k hk).2
      omega
  · have hlt := h.wid.2 k hk
    have hlt2 := h.pk.kept k (.inl hk)
    rw [hO.block k (Nat.lt_of_lt_of_le hlt2 k1.size) (by omega), k1.block k hlt2 (fun e => by have := (h.o1.new k e).1; omega)]
    exact h.same k hk
end
theorem stG0 {w : World} {g : Nat} {a b : Value} (h : Holds w g 54 #[a, b]) (p : Option Addr) (n k : Nat) : (storeVar 31 ⟨g, 0, none⟩ (.slice p n k)).run Tryz.prog w = .ok () (w.setCell ⟨g, 0, none⟩ (.slice p n k)) ∧ Holds (w.setCell ⟨g, 0, none⟩ (.slice p n k)) g 54 #[.slice p n k, b] ∧ Only g w (w.setCell ⟨g, 0, none⟩ (.slice p n k)) := by
  refine ⟨?_, h.set 0 _, (Only.refl g w).set 0 _⟩
  have h1 := h.cell 0
  have h2 := h.frozen 0
  simp [go_sem, h1, h2]
theorem stG1 {w : World} {g : Nat} {a b : Value} (h : Holds w g 54 #[a, b]) (p : Option Addr) (n k : Nat) : (storeVar 31 ⟨g, 1, none⟩ (.slice p n k)).run Tryz.prog w = .ok () (w.setCell ⟨g, 1, none⟩ (.slice p n k)) ∧ Holds (w.setCell ⟨g, 1, none⟩ (.slice p n k)) g 54 #[a, .slice p n k] ∧ Only g w (w.setCell ⟨g, 1, none⟩ (.slice p n k)) := by
  refine ⟨?_, h.set 1 _, (Only.refl g w).set 1 _⟩
  have h1 := h.cell 1
  have h2 := h.frozen 1
  simp [go_sem, h1, h2]
theorem ldMeG {w : World} {g : Nat} {a b c d : Value} (h : Holds w g 43 #[a, b, c, d]) : (loadVar 43 ⟨g, 0, none⟩).run Tryz.prog w = .ok (.agg #[a, b, c, d]) w :=
  run_loadVar_row w g 43 43 #[a, b, c, d] (0, 0) _ h Tryz.underlying43 (by simp) infoMetaG
theorem row_cell {w : World} {base : Nat} {a n c : Nat} {l : List Int} {i : Nat} {z : Int} (h : OI w base (.slice (some ⟨a, 0, none⟩) n c) l) (hi : l[i]? = some z) : w.cell? ⟨a, i, none⟩ = some (.int .i64 z) := by
  obtain ⟨g, cap, e, hc⟩ := h.at hi
  injection e with e _ _
  injection e with e
  injection e with e
  subst e
  rw [Nat.zero_add] at hc
  exact hc
theorem neq_metaG (t r e q : Int) (ρ : Operand → Value) (o : Oper) (y z : Operand) {ty : TypeId} (ho : o.op = .binOp .neq 43 y z ty) (hy : ρ y = .agg #[.int .i64 t, .int .i64 r, .int .i64 e, .int .i64 q]) (hz : ρ z = .agg #[.int .i64 t, .int .i64 r, .int .i64 e, .int .i64 q]) (w : World) : (execOp ρ o).run Tryz.prog w = .ok (.value (.bool false)) w := by
  have h1 := K.eql_meta w t r e q t r e q
  rw [show (10000 : Nat) = Op.maxDepth from rfl] at h1
  have h2 := K.guardMeta
  unfold execOp
  simp only [ho, hy, hz]
  simp [binOp, go_sem, Op.equal, h1, h2]
end Go.Proofs.YtjklcnknbcmgoaaGreatDoor
