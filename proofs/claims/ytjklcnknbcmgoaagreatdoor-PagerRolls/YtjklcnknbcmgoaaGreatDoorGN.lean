/-
  Texts of this claim, put together.
-/
import Derived.Test.YtjklcnknbcmgoaaGreatDoorGM
import Derived.Test.YtjklcnknbcmgoaaGreatDoorGRollW
/-
  What holds of a pager between its calls: pure.
-/
namespace Go.Proofs.YtjklcnknbcmgoaaGreatDoor
open Go Go.RowKit Go.Maps

structure PInv (S : St) : Prop where
  br : S.P.broken = false
  stop : 2 ≤ S.P.stop ∧ S.P.stop ≤ 65536
  pg : 2 ≤ S.P.pages ∧ S.P.pages ≤ S.P.stop
  srt : Srt S.L
  run : ∀ q ∈ S.L, 2 ≤ q.1 ∧ q.2 ≤ S.P.stop
  one : ∀ q ∈ S.L, q.2 = q.1 + 1 ∨ q.2 ≤ S.P.pages
  fr : ∀ u x, S.Fr u = some x → 2 ≤ u ∧ u < S.P.stop ∧ ¬ inR S.L u
  fd : ∀ u x, S.Fd u = some x → 2 ≤ u ∧ u < S.P.pages ∧ ¬ inR S.L u ∧ S.Fr u = none
  cov : ∀ u, S.P.pages ≤ u → u < S.P.stop → inR S.L u ∨ (S.Fr u).isSome = true
/-- A page of the state that counts. -/
def Us (S : St) (n : Int) : Prop := 2 ≤ n ∧ n < S.P.pages ∧ ¬ inR S.L n ∧ S.Fr n = none
theorem PInv.inR {S : St} (h : PInv S) {n : Int} (hn : inR S.L n) : 2 ≤ n ∧ n < S.P.stop := by
  obtain ⟨q, hq, h1, h2⟩ := inR_iff.1 hn
  have := h.run q hq
  omega
theorem setM_cases {α : Type} {M : Int → Option α} {u v : Int} {x : Option α} {y : α} (h : setM M u x v = some y) : (v = u ∧ x = some y) ∨ (v ≠ u ∧ M v = some y) := by
  unfold setM at h
  split at h
  · rename_i e; exact .inl ⟨e, h⟩
  · rename_i e; exact .inr ⟨e, h⟩
theorem mem_took {q x : Int × Int} {L : Runs} (h : x ∈ tookR (q :: L)) : x ∈ L ∨ (x = (q.1 + 1, q.2) ∧ q.1 + 1 < q.2) := by
  rw [tookR_cons] at h
  split at h
  · rename_i hq
    rcases List.mem_cons.1 h with e | e
    · exact .inr ⟨e, hq⟩
    · exact .inl e
  · exact .inl h
/-- Behind an Alloc that goes through. -/
theorem alloc_inv {S : St} (h : PInv S) (hroom : S.P.stop < S.D.size) (hsz : S.D.size ≤ 65536) :
    (allocS S).2.1 = 0 ∧ PInv (allocS S).2.2 ∧ (∀ n, Us (allocS S).2.2 n ↔ Us S n) ∧ (allocS S).2.2.Fr = setM S.Fr (allocS S).1 (some ()) ∧ (allocS S).2.2.Fd = S.Fd ∧ (allocS S).2.2.D = S.D ∧ ¬ Us S (allocS S).1 ∧ S.Fr (allocS S).1 = none ∧ 2 ≤ (allocS S).1 ∧ (allocS S).1 < S.D.size ∧ (allocS S).2.2.P.pages = S.P.pages ∧ (allocS S).2.2.P.tx = S.P.tx ∧ ((allocS S).2.2.P.stop = S.P.stop ∨ S.L = [] ∧ (allocS S).2.2.P.stop = S.P.stop + 1) ∧ (allocS S).2.2.P.used = true ∧ (allocS S).2.2.P.reads = S.P.reads := by
  unfold allocS
  rw [if_neg (by rw [h.br]; simp)]
  cases hL : S.L with
  | cons q L =>
    have hs := h.srt
    rw [hL] at hs
    have hq := h.run q (by rw [hL]; exact List.mem_cons_self)
    have hqp := hs.1
    have hin : inR S.L q.1 := by rw [hL]; exact .inl ⟨Int.le_refl _, hqp⟩
    have hto : ∀ n, inR (tookR (q :: L)) n ↔ inR (q :: L) n ∧ n ≠ q.1 := inR_took hs
    dsimp only
    have hfrn : S.Fr q.1 = none := by
      cases e : S.Fr q.1 with
      | none => rfl
      | some x => exact absurd hin (h.fr _ _ e).2.2
    refine ⟨rfl, ⟨h.br, h.stop, h.pg, srt_took hs, fun x hx => ?_, fun x hx => ?_, fun u x hu => ?_, fun u x hu => ?_, fun u h1 h2 => ?_⟩, fun n => ?_, rfl, rfl, rfl, fun hu => hu.2.2.1 hin, hfrn, hq.1, by show q.1 < S.D.size; omega, rfl, rfl, .inl rfl, rfl, rfl⟩
    · rcases mem_took hx with e | ⟨rfl, e⟩
      · exact h.run x (by rw [hL]; exact List.mem_cons_of_mem _ e)
      · exact ⟨by dsimp only; omega, hq.2⟩
    · rcases mem_took hx with e | ⟨rfl, e⟩
      · exact h.one x (by rw [hL]; exact List.mem_cons_of_mem _ e)
      · rcases h.one q (by rw [hL]; exact List.mem_cons_self) with e2 | e2
        · omega
        · exact .inr e2
    · rcases setM_cases hu with ⟨rfl, _⟩ | ⟨hne, e⟩
      · exact ⟨hq.1, by show q.1 < S.P.stop; omega, fun hr => ((hto _).1 hr).2 rfl⟩
      · obtain ⟨h1, h2, h3⟩ := h.fr u x e
        exact ⟨h1, h2, fun hr => h3 (by rw [hL]; exact ((hto _).1 hr).1)⟩
    · obtain ⟨h1, h2, h3, h4⟩ := h.fd u x hu
      have hne : u ≠ q.1 := fun e => h3 (e ▸ hin)
      exact ⟨h1, h2, fun hr => h3 (by rw [hL]; exact ((hto _).1 hr).1), by show setM S.Fr q.1 (some ()) u = none; rw [setM_other _ _ hne]; exact h4⟩
    · show inR (tookR (q :: L)) u ∨ (setM S.Fr q.1 (some ()) u).isSome = true
      by_cases e : u = q.1
      · rw [e, setM_same]; exact .inr rfl
      · rw [setM_other _ _ e]
        rcases h.cov u h1 h2 with g | g
        · rw [hL] at g; exact .inl ((hto u).2 ⟨g, e⟩)
        · exact .inr g
    · unfold Us
      show (2 ≤ n ∧ n < S.P.pages ∧ ¬ inR (tookR (q :: L)) n ∧ setM S.Fr q.1 (some ()) n = none) ↔ _
      rw [hL]
      constructor
      · rintro ⟨h1, h2, h3, h4⟩
        have hne : n ≠ q.1 := fun e => by rw [e, setM_same] at h4; cases h4
        rw [setM_other _ _ hne] at h4
        exact ⟨h1, h2, fun hr => h3 ((hto n).2 ⟨hr, hne⟩), h4⟩
      · rintro ⟨h1, h2, h3, h4⟩
        have hne : n ≠ q.1 := fun e => h3 (e ▸ (hL ▸ hin))
        exact ⟨h1, h2, fun hr => h3 ((hto n).1 hr).1, by rw [setM_other _ _ hne]; exact h4⟩
  | nil =>
    dsimp only
    rw [if_neg (by omega)]
    have hst := h.stop
    have hpg := h.pg
    have hfrn : S.Fr S.P.stop = none := by
      cases e : S.Fr S.P.stop with
      | none => rfl
      | some x => have := (h.fr _ _ e).2.1; omega
    refine ⟨rfl, ⟨h.br, ⟨by show 2 ≤ S.P.stop + 1; omega, by show S.P.stop + 1 ≤ 65536; omega⟩, ⟨hpg.1, by show S.P.pages ≤ S.P.stop + 1; omega⟩, trivial, (fun x hx => by cases hx), (fun x hx => by cases hx), fun u x hu => ?_, fun u x hu => ?_, fun u h1 h2 => ?_⟩, fun n => ?_, rfl, rfl, rfl, (fun hu => by have := hu.2.1; omega), hfrn, hst.1, hroom, rfl, rfl, .inr ⟨rfl, rfl⟩, rfl, rfl⟩
    · rcases setM_cases hu with ⟨rfl, _⟩ | ⟨hne, e⟩
      · exact ⟨hst.1, by show S.P.stop < S.P.stop + 1; omega, fun hr => hr⟩
      · obtain ⟨h1, h2, h3⟩ := h.fr u x e
        exact ⟨h1, by show u < S.P.stop + 1; omega, fun hr => hr⟩
    · obtain ⟨h1, h2, h3, h4⟩ := h.fd u x hu
      exact ⟨h1, h2, fun hr => hr, by show setM S.Fr S.P.stop (some ()) u = none; rw [setM_other _ _ (by omega)]; exact h4⟩
    · show inR [] u ∨ (setM S.Fr S.P.stop (some ()) u).isSome = true
      have h2' : u < S.P.stop + 1 := h2
      by_cases e : u = S.P.stop
      · rw [e, setM_same]; exact .inr rfl
      · rw [setM_other _ _ e]
        rcases h.cov u h1 (by omega) with g | g
        · rw [hL] at g; exact .inl g
        · exact .inr g
    · unfold Us
      show (2 ≤ n ∧ n < S.P.pages ∧ ¬ inR (tookR []) n ∧ setM S.Fr S.P.stop (some ()) n = none) ↔ _
      rw [hL]
      constructor
      · rintro ⟨h1, h2, h3, h4⟩
        rw [setM_other _ _ (by omega)] at h4
        exact ⟨h1, h2, h3, h4⟩
      · rintro ⟨h1, h2, h3, h4⟩
        exact ⟨h1, h2, h3, by rw [setM_other _ _ (by omega)]; exact h4⟩
/-- Behind a Free of a page of the state. -/
theorem free_inv {S : St} (h : PInv S) {n : Int} (hn : Us S n) : PInv ⟨{ S.P with used := true }, S.L, S.Fr, setM S.Fd n (some ()), S.D⟩ ∧ ∀ k, Us ⟨{ S.P with used := true }, S.L, S.Fr, setM S.Fd n (some ()), S.D⟩ k ↔ Us S k := by
  refine ⟨⟨h.br, h.stop, h.pg, h.srt, h.run, h.one, h.fr, fun u x hu => ?_, h.cov⟩, fun k => Iff.rfl⟩
  rcases setM_cases hu with ⟨rfl, _⟩ | ⟨_, e⟩
  · exact hn
  · exact h.fd u x e
theorem inR_of_mem {L L' : Runs} {Pr : Int × Int → Prop} {F : Int → Prop} (hm : ∀ q, q ∈ L' ↔ (q ∈ L ∧ Pr q) ∨ ∃ n, F n ∧ q = (n, n + 1)) {k : Int} (hk : inR L' k) : inR L k ∨ F k := by
  obtain ⟨q, hq, h1, h2⟩ := inR_iff.1 hk
  rcases (hm q).1 hq with ⟨h3, _⟩ | ⟨n, h3, rfl⟩
  · exact .inl (inR_iff.2 ⟨q, h3, h1, h2⟩)
  · dsimp only at h1 h2
    have : n = k := by omega
    subst this
    exact .inr h3
/-- Behind a Commit that goes through. -/
theorem commit_inv {S : St} (h : PInv S) {L' : Runs} (hs : Srt L') (hm : ∀ q, q ∈ L' ↔ q ∈ S.L ∨ ∃ n, (S.Fd n).isSome = true ∧ q = (n, n + 1)) (D' : Dev) (root ents : Int) :
    PInv ⟨{ S.P with used := true, tx := S.P.tx + 1, root := root, entries := ents, pages := S.P.stop, count := totR L' }, L', fun _ => none, fun _ => none, D'⟩ ∧
    ∀ n, ((Us S n ∧ S.Fd n = none) ∨ (S.Fr n).isSome = true) ↔ Us ⟨{ S.P with used := true, tx := S.P.tx + 1, root := root, entries := ents, pages := S.P.stop, count := totR L' }, L', fun _ => none, fun _ => none, D'⟩ n := by
  have hst := h.stop
  have hpg := h.pg
  have hm' : ∀ q, q ∈ L' ↔ (q ∈ S.L ∧ True) ∨ ∃ n, (S.Fd n).isSome = true ∧ q = (n, n + 1) := fun q => by rw [hm q]; simp
  have hrun : ∀ q ∈ L', 2 ≤ q.1 ∧ q.2 ≤ S.P.stop := fun q hq => by
    rcases (hm q).1 hq with e | ⟨n, e, rfl⟩
    · exact h.run q e
    · obtain ⟨x, hx⟩ := Option.isSome_iff_exists.1 e
      have := h.fd n x hx
      exact ⟨this.1, by dsimp only; omega⟩
  refine ⟨⟨h.br, hst, ⟨hst.1, Int.le_refl _⟩, hs, hrun, fun q hq => .inr (hrun q hq).2, (fun u x hu => by cases hu), (fun u x hu => by cases hu), fun u h1 h2 => absurd h1 (by have : u < S.P.stop := h2; show ¬ S.P.stop ≤ u; omega)⟩, fun n => ⟨fun hn => ?_, fun hn => ?_⟩⟩
  rotate_left
  · obtain ⟨h1, h2, h3, h4⟩ := hn
    have h2' : n < S.P.stop := h2
    have h3' : ¬ inR L' n := h3
    have hnL : ¬ inR S.L n := fun e => by
      obtain ⟨q, hq, e1, e2⟩ := inR_iff.1 e
      exact h3' (inR_iff.2 ⟨q, (hm q).2 (.inl hq), e1, e2⟩)
    have hnF : S.Fd n = none := by
      cases e : S.Fd n with
      | none => rfl
      | some x => exact absurd (inR_iff.2 ⟨(n, n + 1), (hm _).2 (.inr ⟨n, by rw [e]; rfl, rfl⟩), Int.le_refl _, by dsimp only; omega⟩) h3'
    cases e : S.Fr n with
    | some x => exact .inr rfl
    | none =>
      by_cases hp : n < S.P.pages
      · exact .inl ⟨⟨h1, hp, hnL, e⟩, hnF⟩
      · rcases h.cov n (by omega) h2' with g | g
        · exact absurd g hnL
        · rw [e] at g; cases g
  rcases hn with ⟨⟨h1, h2, h3, h4⟩, h5⟩ | hn
  · refine ⟨h1, by show n < S.P.stop; omega, fun hr => ?_, rfl⟩
    rcases inR_of_mem hm' hr with e | e
    · exact h3 e
    · rw [h5] at e; cases e
  · obtain ⟨x, hx⟩ := Option.isSome_iff_exists.1 hn
    obtain ⟨h1, h2, h3⟩ := h.fr n x hx
    refine ⟨h1, h2, fun hr => ?_, rfl⟩
    rcases inR_of_mem hm' hr with e | e
    · exact h3 e
    · obtain ⟨y, hy⟩ := Option.isSome_iff_exists.1 e
      have := (h.fd n y hy).2.2.2
      rw [hx] at this
      cases this
/-- Behind a Rollback. -/
theorem roll_inv {S : St} (h : PInv S) {L' : Runs} (hs : Srt L') (hm : ∀ q, q ∈ L' ↔ (q ∈ S.L ∧ q.1 < S.endB) ∨ ∃ n, (S.Fr n).isSome = true ∧ n < S.endB ∧ q = (n, n + 1)) :
    PInv ⟨{ S.P with used := true, stop := S.endB, count := totR L' }, L', fun _ => none, fun _ => none, S.D⟩ ∧
    ∀ n, Us S n ↔ Us ⟨{ S.P with used := true, stop := S.endB, count := totR L' }, L', fun _ => none, fun _ => none, S.D⟩ n := by
  have hst := h.stop
  have hpg := h.pg
  have hE : S.endB = S.P.pages := by unfold St.endB; omega
  have hm' : ∀ q, q ∈ L' ↔ (q ∈ S.L ∧ q.1 < S.endB) ∨ ∃ n, ((S.Fr n).isSome = true ∧ n < S.endB) ∧ q = (n, n + 1) := fun q => by
    rw [hm q]
    constructor
    · rintro (e | ⟨n, e1, e2, e3⟩)
      · exact .inl e
      · exact .inr ⟨n, ⟨e1, e2⟩, e3⟩
    · rintro (e | ⟨n, ⟨e1, e2⟩, e3⟩)
      · exact .inl e
      · exact .inr ⟨n, e1, e2, e3⟩
  have hrun : ∀ q ∈ L', 2 ≤ q.1 ∧ q.2 ≤ S.endB := fun q hq => by
    rcases (hm q).1 hq with ⟨e, e2⟩ | ⟨n, e, e2, rfl⟩
    · have h1 := h.run q e
      rcases h.one q e with h2 | h2
      · omega
      · omega
    · obtain ⟨x, hx⟩ := Option.isSome_iff_exists.1 e
      have := h.fr n x hx
      exact ⟨this.1, by dsimp only; omega⟩
  refine ⟨⟨h.br, ⟨by show 2 ≤ S.endB; omega, by show S.endB ≤ 65536; omega⟩, ⟨hpg.1, by show S.P.pages ≤ S.endB; omega⟩, hs, hrun, fun q hq => .inr (by have := (hrun q hq).2; show q.2 ≤ S.P.pages; omega), (fun u x hu => by cases hu), (fun u x hu => by cases hu), fun u h1 h2 => absurd h1 (by have : u < S.endB := h2; show ¬ S.P.pages ≤ u; omega)⟩, fun n => ⟨fun hn => ?_, fun hn => ?_⟩⟩
  rotate_left
  · obtain ⟨h1, h2, h3, h4⟩ := hn
    have h2' : n < S.P.pages := h2
    have h3' : ¬ inR L' n := h3
    refine ⟨h1, h2, fun e => ?_, ?_⟩
    · obtain ⟨q, hq, e1, e2⟩ := inR_iff.1 e
      exact h3' (inR_iff.2 ⟨q, (hm q).2 (.inl ⟨hq, by omega⟩), e1, e2⟩)
    · cases e : S.Fr n with
      | none => rfl
      | some x => exact absurd (inR_iff.2 ⟨(n, n + 1), (hm _).2 (.inr ⟨n, by rw [e]; rfl, by omega, rfl⟩), Int.le_refl _, by dsimp only; omega⟩) h3'
  obtain ⟨h1, h2, h3, h4⟩ := hn
  refine ⟨h1, h2, fun hr => ?_, rfl⟩
  rcases inR_of_mem hm' hr with e | ⟨e, _⟩
  · exact h3 e
  · rw [h4] at e; cases e
end Go.Proofs.YtjklcnknbcmgoaaGreatDoor
/-
  Alloc and Rollback of a pager of a call's own, between whose calls all is well.
-/
namespace Go.Proofs.YtjklcnknbcmgoaaGreatDoor
open Go Go.RowKit Go.Maps

section
variable {G : Nat → Prop} {w0 w : World} {b : Nat} {H : Hs} {S : St} {N : Nat}
theorem pk_alloc (p : Pk G w0 w b H S N) (iv : PInv S) (hroom : S.P.stop < S.D.size) :
    Calls Tryz.prog 22 #[.pointer (some ⟨b, 0, none⟩)] w fun e w' => ∃ n S' H', e = .returned (.tuple #[.int .i64 n, .int .i64 0]) ∧ n = (allocS S).1 ∧ S' = (allocS S).2.2 ∧ Pk G w0 w' b H' S' N ∧ SameG G w w' ∧ PInv S' ∧ (∀ k, Us S' k ↔ Us S k) ∧ S'.Fr = setM S.Fr n (some ()) ∧ S'.Fd = S.Fd ∧ S'.D = S.D ∧ ¬ Us S n ∧ S.Fr n = none ∧ 2 ≤ n ∧ n < S.D.size ∧ S'.P.pages = S.P.pages ∧ S'.P.tx = S.P.tx ∧ (S'.P.stop = S.P.stop ∨ S.L = [] ∧ S'.P.stop = S.P.stop + 1) ∧ S'.P.used = true ∧ S'.P.reads = S.P.reads := by
  have hsz := p.ok.size
  have hst := iv.stop
  have h := galloc_any p.at_ ⟨by omega, by unfold topPg; omega⟩ (fun u x hu => by have := iv.fr u x hu; unfold topPg; omega)
  obtain ⟨e1, e2, e3, e4, e5, e6, e7, e8, e9, e10, e11, e12, e13⟩ := alloc_inv iv hroom hsz.2
  rw [e1] at h
  refine h.mono ?_
  rintro e w' ⟨rfl, H', a', d'⟩
  obtain ⟨p', s'⟩ := p.step a' d' (N' := N) (by rw [e6]; exact p.ok) (by rw [e6]; exact p.cm) e2.br
  exact ⟨_, _, H', rfl, rfl, rfl, p', s', e2, e3, e4, e5, e6, e7, e8, e9, e10, e11, e12, e13⟩
theorem pk_roll (p : Pk G w0 w b H S N) (iv : PInv S) :
    Calls Tryz.prog 21 #[.pointer (some ⟨b, 0, none⟩)] w fun e w' => ∃ S' H', e = .returned (.tuple #[]) ∧ Pk G w0 w' b H' S' N ∧ SameG G w w' ∧ PInv S' ∧ (∀ k, Us S k ↔ Us S' k) ∧ (S'.Fr = fun _ => none) ∧ (S'.Fd = fun _ => none) ∧ S'.D = S.D ∧ S'.P = { S.P with used := true, stop := S.P.pages, count := totR S'.L } ∧ (∀ n, inR S'.L n ↔ (inR S.L n ∨ (S.Fr n).isSome = true) ∧ n < S.P.pages) := by
  have hst := iv.stop
  have hpg := iv.pg
  refine (groll_any p.at_ (by unfold topPg; omega) (fun u x hu => by have h1 := iv.fr u x hu; exact ⟨by omega, by unfold topPg; omega, h1.2.2⟩)).mono ?_
  rintro e w' ⟨rfl, H', L', a', d', hm⟩
  obtain ⟨i1, i2⟩ := roll_inv iv a'.sp.srt hm
  obtain ⟨p', s'⟩ := p.step a' d' (N' := N) p.ok p.cm i1.br
  have hE : S.endB = S.P.pages := by unfold St.endB; omega
  refine ⟨_, H', rfl, p', s', i1, i2, rfl, rfl, rfl, by show ({ S.P with used := true, stop := S.endB, count := totR L' } : Pgr) = _; rw [hE], fun n => ?_⟩
  show inR L' n ↔ _
  constructor
  · intro h
    obtain ⟨q, hq, e1, e2⟩ := inR_iff.1 h
    rcases (hm q).1 hq with ⟨g1, g2⟩ | ⟨m, g1, g2, rfl⟩
    · refine ⟨.inl (inR_iff.2 ⟨q, g1, e1, e2⟩), ?_⟩
      rcases iv.one q g1 with g | g <;> omega
    · dsimp only at e1 e2
      have : m = n := by omega
      subst this
      exact ⟨.inr g1, by omega⟩
  · rintro ⟨h | h, hn⟩
    · obtain ⟨q, hq, e1, e2⟩ := inR_iff.1 h
      exact inR_iff.2 ⟨q, (hm q).2 (.inl ⟨hq, by omega⟩), e1, e2⟩
    · exact inR_iff.2 ⟨(n, n + 1), (hm _).2 (.inr ⟨n, h, by omega, rfl⟩), Int.le_refl _, by dsimp only; omega⟩
/-- A Commit keeps the pages of the next state, and what they read. -/
theorem pk_commitU (p : Pk G w0 w b H S N) (iv : PInv S) (hF : Fw S.D) (hT : K.Tabs w0) (hN : N + 3 < 1000000000) (root ents : Nat) (hre : root < 1000000000000 ∧ ents < 1000000000000) (htx : 0 ≤ S.P.tx ∧ S.P.tx < 1000000000000) (hsz : 2 ≤ S.D.size) :
    Calls Tryz.prog 25 #[.pointer (some ⟨b, 0, none⟩), .int .i64 (root : Nat), .int .i64 (ents : Nat)] w fun e w' => e = .returned (.int .i64 0) ∧ ∃ S' H', Pk G w0 w' b H' S' (N + 3) ∧ SameG G w w' ∧ PInv S' ∧ (∀ k, ((Us S k ∧ S.Fd k = none) ∨ (S.Fr k).isSome = true) ↔ Us S' k) ∧ (S'.Fr = fun _ => none) ∧ (S'.Fd = fun _ => none) ∧ S'.D.size = S.D.size ∧ S'.P.tx = S.P.tx + 1 ∧ S'.P.pages = S.P.stop ∧ S'.P.stop = S.P.stop ∧ S'.P.used = true ∧ S'.P.reads = S.P.reads ∧ Fw S'.D ∧ ∀ k, 2 ≤ k → front S'.D k = front S.D k := by
  have hst := iv.stop
  obtain ⟨a1, a2, a3, a4, a5⟩ := cm_sync p.cm
  obtain ⟨f1, f2⟩ := fw_sync p.cm hF
  have hsl : 0 ≤ slotOf (nextM S root ents).tx ∧ slotOf (nextM S root ents).tx < 2 := by
    unfold slotOf
    split <;> omega
  have hhas : S.D.sync.2.has (slotOf (nextM S root ents).tx) = true := has_of hsl.1 (by omega)
  obtain ⟨b1, b2, b3, b4, b5⟩ := cm_write a2 hhas (K.metaS_size (nextM S root ents))
  obtain ⟨g1, g2, g3⟩ := fw_write a2 f1 hhas (K.metaS_size (nextM S root ents))
  obtain ⟨c1, c2, c3, c4, c5⟩ := cm_sync b2
  obtain ⟨h1, h2⟩ := fw_sync b2 g1
  refine (gcommit_ok p.at_ (p.tabs hT) (p.top hT) p.br root ents hre htx ⟨by omega, by unfold topPg; omega⟩ (fun u x hu => by have h1 := iv.fd u x hu; have h2 := iv.pg; exact ⟨by omega, by unfold topPg; omega, h1.2.2.1⟩) p.ok hN a1 b1 c1).mono ?_
  rintro e w' ⟨rfl, H', L', a', d', hm⟩
  obtain ⟨p', s'⟩ := p.step a' d' (N' := N + 3) (sync_ok (write_ok (sync_ok p.ok) _ _)) c2 p.br
  obtain ⟨i1, i2⟩ := commit_inv iv p'.at_.sp.srt hm (S.D.sync.2.write (slotOf (nextM S root ents).tx) (K.metaS (nextM S root ents))).2.sync.2 root ents
  exact ⟨rfl, _, H', p', s', i1, i2, rfl, rfl, by show _ = _; rw [c3, b4, a3], rfl, rfl, rfl, rfl, rfl, h1, fun k hk => (h2 k).trans ((g3 k (by omega)).trans (f2 k))⟩
/-- Write to a new page: what it reads then; all others read as they did. -/
theorem pk_writeU (p : Pk G w0 w b H S N) (iv : PInv S) (hF : Fw S.D) (hT : K.Tabs w0) (hN : N < 1000000000) (n : Int) (hn : 0 ≤ n ∧ n < S.D.size) (hfr : S.Fr n = some ()) (k : UInt8) (s : ByteArray) (hs : s.size ≤ 1013) :
    Calls Tryz.prog 24 #[.pointer (some ⟨b, 0, none⟩), .int .i64 n, .int .u8 (K.oct k), .string s] w fun e w' => e = .returned (.int .i64 0) ∧ ∃ D' H', Pk G w0 w' b H' { S with D := D' } (N + 1) ∧ SameG G w w' ∧ PInv { S with D := D' } ∧ (∀ j, Us { S with D := D' } j ↔ Us S j) ∧ D'.size = S.D.size ∧ Fw D' ∧ front D' n = K.sealS k s ∧ ∀ j, j ≠ n → front D' j = front S.D j := by
  obtain ⟨g1, g2, g3⟩ := fw_write p.cm hF (n := n) (has_of hn.1 hn.2) (K.sealS_size k hs)
  refine (pk_write_ok p hT hN n hn hfr k s hs).mono ?_
  rintro e w' ⟨rfl, H', p', s', z'⟩
  exact ⟨rfl, _, H', p', s', ⟨iv.br, iv.stop, iv.pg, iv.srt, iv.run, iv.one, iv.fr, iv.fd, iv.cov⟩, fun j => Iff.rfl, z', g1, g2, g3⟩
/-- Free of a page of the state that was not freed yet. -/
theorem pk_freeU (p : Pk G w0 w b H S N) (iv : PInv S) (n : Int) (hn : Us S n) (hfd : S.Fd n = none) {g : Nat} {t : TypeId} (hg : Holds w g t #[.int .i64 n]) (hgf : ¬ PgFoot b H g) :
    Calls Tryz.prog 26 #[.pointer (some ⟨b, 0, none⟩), .slice (some ⟨g, 0, none⟩) 1 1] w fun e w' => e = .returned (.int .i64 1) ∧ ∃ H', Pk G w0 w' b H' ⟨{ S.P with used := true }, S.L, S.Fr, setM S.Fd n (some ()), S.D⟩ N ∧ SameG G w w' ∧ PInv ⟨{ S.P with used := true }, S.L, S.Fr, setM S.Fd n (some ()), S.D⟩ ∧ ∀ k, Us ⟨{ S.P with used := true }, S.L, S.Fr, setM S.Fd n (some ()), S.D⟩ k ↔ Us S k := by
  have hst := iv.stop
  have hpg := iv.pg
  obtain ⟨i1, i2⟩ := free_inv iv hn
  refine (pk_free_state p (fun u x hu => by have h1 := iv.fr u x hu; exact ⟨by omega, by unfold topPg; omega, h1.2.2⟩) (fun u x hu => by have h1 := iv.fd u x hu; unfold topPg; omega) (by unfold topPg; omega) n ⟨hn.1, hn.2.1⟩ hn.2.2.2 hn.2.2.1 hfd hg hgf).mono ?_
  rintro e w' ⟨rfl, H', p', s'⟩
  exact ⟨rfl, H', p', s', i1, i2⟩
end
end Go.Proofs.YtjklcnknbcmgoaaGreatDoor
/-
  What a transaction of the law's keeps of a state, and what it frees: pure.
-/
namespace Go.Proofs.YtjklcnknbcmgoaaGreatDoor
open Go Go.RowKit Go.Maps

/-- Those of a row that stay: f says which go, by their places from k on. -/
def keptN {α : Type} (f : Nat → Bool) : Nat → List α → List α
  | _, [] => []
  | k, x :: l => if f k then keptN f (k + 1) l else x :: keptN f (k + 1) l
theorem keptN_snoc {α : Type} (f : Nat → Bool) (l : List α) (x : α) : ∀ k, keptN f k (l ++ [x]) = keptN f k l ++ (if f (k + l.length) then [] else [x]) := by
  induction l with
  | nil => intro k; simp [keptN]
  | cons y l ih =>
    intro k
    simp only [List.cons_append, keptN, ih, List.length_cons]
    rw [show k + 1 + l.length = k + (l.length + 1) by omega]
    split <;> simp
theorem keptN_len {α β : Type} (f : Nat → Bool) : ∀ (l : List α) (m : List β) (k : Nat), l.length = m.length → (keptN f k l).length = (keptN f k m).length
  | [], [], _, _ => rfl
  | x :: l, y :: m, k, h => by
    have ih := keptN_len f l m (k + 1) (by simpa using h)
    simp only [keptN]
    split
    · exact ih
    · simp [ih]
/-- Where two rows' parts stood. -/
theorem keptN_at {α β : Type} (f : Nat → Bool) : ∀ (l : List α) (m : List β) (k i : Nat) (x : α) (y : β), l.length = m.length → (keptN f k l)[i]? = some x → (keptN f k m)[i]? = some y → ∃ j, l[j]? = some x ∧ m[j]? = some y ∧ f (k + j) = false
  | [], [], _, i, x, y, _, h1, _ => by simp [keptN] at h1
  | u :: l, v :: m, k, i, x, y, hl, h1, h2 => by
    have hl' : l.length = m.length := by simpa using hl
    simp only [keptN] at h1 h2
    cases hf : f k with
    | true =>
      rw [hf] at h1 h2
      obtain ⟨j, a1, a2, a3⟩ := keptN_at f l m (k + 1) i x y hl' (by simpa using h1) (by simpa using h2)
      exact ⟨j + 1, by simpa using a1, by simpa using a2, by rw [show k + (j + 1) = k + 1 + j by omega]; exact a3⟩
    | false =>
      rw [hf] at h1 h2
      cases i with
      | zero => exact ⟨0, by simpa using h1, by simpa using h2, hf⟩
      | succ i =>
        obtain ⟨j, a1, a2, a3⟩ := keptN_at f l m (k + 1) i x y hl' (by simpa using h1) (by simpa using h2)
        exact ⟨j + 1, by simpa using a1, by simpa using a2, by rw [show k + (j + 1) = k + 1 + j by omega]; exact a3⟩
open Classical in
/-- The freed pages then. -/
noncomputable def fdS (f : Nat → Bool) (ps : List Int) (F : Int → Option Unit) (n : Int) : Option Unit := if ∃ j : Nat, ps[j]? = some n ∧ f j = true then some () else F n
theorem fdS_yes {f : Nat → Bool} {ps : List Int} {F : Int → Option Unit} {n : Int} (h : ∃ j : Nat, ps[j]? = some n ∧ f j = true) : fdS f ps F n = some () := by unfold fdS; rw [if_pos h]
theorem fdS_no {f : Nat → Bool} {ps : List Int} {F : Int → Option Unit} {n : Int} (h : ¬ ∃ j : Nat, ps[j]? = some n ∧ f j = true) : fdS f ps F n = F n := by unfold fdS; rw [if_neg h]
theorem fdS_nil (f : Nat → Bool) (F : Int → Option Unit) : fdS f [] F = F := by
  funext n
  unfold fdS
  rw [if_neg (by rintro ⟨j, h, _⟩; simp at h)]
theorem fdS_snoc (f : Nat → Bool) (l : List Int) (x : Int) (F : Int → Option Unit) : fdS f (l ++ [x]) F = if f l.length = true then setM (fdS f l F) x (some ()) else fdS f l F := by
  funext n
  have key : (∃ j : Nat, (l ++ [x])[j]? = some n ∧ f j = true) ↔ (∃ j : Nat, l[j]? = some n ∧ f j = true) ∨ (n = x ∧ f l.length = true) := by
    constructor
    · rintro ⟨j, h1, h2⟩
      by_cases hj : j < l.length
      · rw [List.getElem?_append_left hj] at h1
        exact .inl ⟨j, h1, h2⟩
      · rw [List.getElem?_append_right (by omega)] at h1
        have hz : j - l.length = 0 := by
          have := (List.getElem?_eq_some_iff.1 h1).1
          simp at this
          omega
        rw [hz] at h1
        simp at h1
        have : j = l.length := by omega
        subst this
        exact .inr ⟨h1.symm, h2⟩
    · rintro (⟨j, h1, h2⟩ | ⟨rfl, h2⟩)
      · exact ⟨j, by rw [List.getElem?_append_left (List.getElem?_eq_some_iff.1 h1).1]; exact h1, h2⟩
      · exact ⟨l.length, by simp, h2⟩
  by_cases hf : f l.length = true
  · rw [if_pos hf]
    by_cases hn : n = x
    · rw [fdS_yes (key.2 (.inr ⟨hn, hf⟩)), hn, setM_same]
    · rw [setM_other _ _ hn]
      by_cases hq : ∃ j : Nat, l[j]? = some n ∧ f j = true
      · rw [fdS_yes hq, fdS_yes (key.2 (.inl hq))]
      · rw [fdS_no hq, fdS_no (fun h => by rcases key.1 h with h | h; exact hq h; exact hn h.1)]
  · rw [if_neg hf]
    by_cases hq : ∃ j : Nat, l[j]? = some n ∧ f j = true
    · rw [fdS_yes hq, fdS_yes (key.2 (.inl hq))]
    · rw [fdS_no hq, fdS_no (fun h => by rcases key.1 h with h | h; exact hq h; exact hf h.2)]
/-- A page that stays is not freed. -/
theorem fdS_kept {f : Nat → Bool} {ps : List Int} (hn : ps.Nodup) {F : Int → Option Unit} {j : Nat} {n : Int} (hj : ps[j]? = some n) (hf : f j = false) : fdS f ps F n = F n := by
  unfold fdS
  rw [if_neg]
  rintro ⟨i, h1, h2⟩
  have : i = j := by
    have a1 := (List.getElem?_eq_some_iff.1 h1)
    have a2 := (List.getElem?_eq_some_iff.1 hj)
    obtain ⟨b1, c1⟩ := a1
    obtain ⟨b2, c2⟩ := a2
    have hp := List.pairwise_iff_getElem.1 hn
    rcases Nat.lt_trichotomy i j with h | h | h
    · exact absurd (c1.trans c2.symm) (hp i j b1 b2 h)
    · exact h
    · exact absurd (c2.trans c1.symm) (hp j i b2 b1 h)
  subst this
  rw [hf] at h2
  cases h2
/-- One that was not come to yet is not freed. -/
theorem fdS_later {f : Nat → Bool} {l : List Int} {F : Int → Option Unit} {n : Int} (hn : n ∉ l) : fdS f l F n = F n := by
  unfold fdS
  rw [if_neg]
  rintro ⟨i, h1, _⟩
  exact hn (List.mem_of_getElem? h1)
end Go.Proofs.YtjklcnknbcmgoaaGreatDoor
