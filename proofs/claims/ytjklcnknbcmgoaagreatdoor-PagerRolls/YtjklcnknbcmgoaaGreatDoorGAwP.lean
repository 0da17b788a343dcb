/-
  A pager of a call's own, on a device without faults.
-/
import Derived.Test.YtjklcnknbcmgoaaGreatDoorGK
import Derived.Test.YtjklcnknbcmgoaaGreatDoorGDevP
namespace Go.Proofs.YtjklcnknbcmgoaaGreatDoor
open Go Go.RowKit Go.Maps

/-- A pager at block b, all of whose blocks are newer than the world w0, and none of G; its device has no faults. -/
structure Pk (G : Nat → Prop) (w0 w : World) (b : Nat) (H : Hs) (S : St) (N : Nat) : Prop where
  at_ : PgAt w b H S
  foot : ∀ k, PgFoot b H k → w0.heap.size ≤ k ∧ ¬ G k
  blw : Below w0.heap.size w0 w
  kept : ∀ k, G k → k < w.heap.size
  ok : S.D.ok N
  cm : Cm S.D
  br : S.P.broken = false
def SameG (G : Nat → Prop) (w w' : World) : Prop := ∀ k, G k → w'.heap[k]? = w.heap[k]?
section
variable {G : Nat → Prop} {w0 w : World} {b : Nat} {H : Hs} {S : St} {N : Nat}
theorem Pk.step {w' : World} {H' : Hs} {S' : St} {N' : Nat} (p : Pk G w0 w b H S N) (a : PgAt w' b H' S') (d : PgDone w b H w' H') (ok : S'.D.ok N') (cm : Cm S'.D) (br : S'.P.broken = false) : Pk G w0 w' b H' S' N' ∧ SameG G w w' :=
  ⟨⟨a, fun k hk => by
    rcases d.new k hk with q | q
    · exact p.foot k q
    · exact ⟨Nat.le_trans p.blw.size q, fun g => by have := p.kept k g; omega⟩, d.keep.fresh p.blw (fun k hk => (p.foot k hk).1), fun k g => Nat.lt_of_lt_of_le (p.kept k g) d.keep.size, ok, cm, br⟩, fun k g => d.keep.block k (p.kept k g) (fun q => (p.foot k q).2 g)⟩
theorem Pk.below {w' : World} (p : Pk G w0 w b H S N) (hB : Below w.heap.size w w') : Pk G w0 w' b H S N :=
  ⟨p.at_.below hB, p.foot, below_new p.blw hB, fun k g => Nat.lt_of_lt_of_le (p.kept k g) hB.size, p.ok, p.cm, p.br⟩
/-- More is kept: what is new. -/
theorem Pk.more {w' : World} {G' : Nat → Prop} (p : Pk G w0 w b H S N) (hB : Below w.heap.size w w') (hG : ∀ k, G' k → (G k ∨ w.heap.size ≤ k) ∧ k < w'.heap.size) : Pk G' w0 w' b H S N :=
  ⟨p.at_.below hB, fun k hk => ⟨(p.foot k hk).1, fun g => by
    rcases (hG k g).1 with q | q
    · exact (p.foot k hk).2 q
    · have := p.at_.lt k hk.blk; omega⟩, below_new p.blw hB, fun k g => (hG k g).2, p.ok, p.cm, p.br⟩
theorem Pk.tabs (p : Pk G w0 w b H S N) (hT : K.Tabs w0) : K.Tabs w := hT.below p.blw
theorem Pk.top (p : Pk G w0 w b H S N) (hT : K.Tabs w0) : ∀ k, PgFoot b H k → 4 ≤ k := fun k hk => Nat.le_trans hT.size (p.foot k hk).1
/-- Alloc, where no page is spare. -/
theorem pk_alloc_end (p : Pk G w0 w b H S N) (hL : S.L = []) (hst : 0 ≤ S.P.stop ∧ S.P.stop < S.D.size) (hfr : ∀ u x, S.Fr u = some x → 0 ≤ u ∧ u < topPg) :
    Calls Tryz.prog 22 #[.pointer (some ⟨b, 0, none⟩)] w fun e w' => e = .returned (.tuple #[.int .i64 S.P.stop, .int .i64 0]) ∧ ∃ H', Pk G w0 w' b H' ⟨{ S.P with used := true, count := 0, stop := S.P.stop + 1 }, [], setM S.Fr S.P.stop (some ()), S.Fd, S.D⟩ N ∧ SameG G w w' := by
  have hsz := p.ok.size
  have e : allocS S = (S.P.stop, 0, ⟨{ S.P with used := true, count := 0, stop := S.P.stop + 1 }, [], setM S.Fr S.P.stop (some ()), S.Fd, S.D⟩) := by
    unfold allocS
    rw [if_neg (by rw [p.br]; simp), hL]
    dsimp only
    rw [if_neg (by omega)]
    rfl
  have h := galloc_any p.at_ ⟨hst.1, by unfold topPg; omega⟩ hfr
  rw [e] at h
  refine h.mono ?_
  rintro e w' ⟨rfl, H', a', d'⟩
  obtain ⟨p', s'⟩ := p.step a' d' p.ok p.cm p.br
  exact ⟨rfl, H', p', s'⟩
/-- Alloc, where one page is spare. -/
theorem pk_alloc_one (p : Pk G w0 w b H S N) {q : Int × Int} (hL : S.L = [q]) (hq : ¬ q.1 + 1 < q.2) (hst : 0 ≤ S.P.stop ∧ S.P.stop < topPg) (hfr : ∀ u x, S.Fr u = some x → 0 ≤ u ∧ u < topPg) :
    Calls Tryz.prog 22 #[.pointer (some ⟨b, 0, none⟩)] w fun e w' => e = .returned (.tuple #[.int .i64 q.1, .int .i64 0]) ∧ ∃ H', Pk G w0 w' b H' ⟨{ S.P with used := true, count := 0 }, [], setM S.Fr q.1 (some ()), S.Fd, S.D⟩ N ∧ SameG G w w' := by
  have e : allocS S = (q.1, 0, ⟨{ S.P with used := true, count := 0 }, [], setM S.Fr q.1 (some ()), S.Fd, S.D⟩) := by
    unfold allocS
    rw [if_neg (by rw [p.br]; simp), hL]
    dsimp only
    rw [tookR_cons, if_neg hq]
    rfl
  have h := galloc_any p.at_ hst hfr
  rw [e] at h
  refine h.mono ?_
  rintro e w' ⟨rfl, H', a', d'⟩
  obtain ⟨p', s'⟩ := p.step a' d' p.ok p.cm p.br
  exact ⟨rfl, H', p', s'⟩
/-- Write to a page that is not new. -/
theorem pk_write_no (p : Pk G w0 w b H S N) (hT : K.Tabs w0) (hN : N < 1000000000) (n : Int) (hn : -9223372036854775808 ≤ n ∧ n ≤ 9223372036854775807) (hF : S.Fr n = none) (k : UInt8) (s : ByteArray) :
    Calls Tryz.prog 24 #[.pointer (some ⟨b, 0, none⟩), .int .i64 n, .int .u8 (K.oct k), .string s] w fun e w' => e = .returned (.int .i64 1) ∧ ∃ H', Pk G w0 w' b H' S N ∧ SameG G w w' := by
  have h := gwrite_any p.at_.cells p.at_.dev p.at_.disk p.ok hN (nf := KP) (S := S.Fr) p.at_.fresh (p.tabs hT) n hn k s
  have e : gwr S.P S.Fr S.D n k s = (1, S.D) := by
    unfold gwr
    rw [if_neg (by rw [p.br]; simp), hF, if_pos (by rfl)]
  rw [e] at h
  refine h.mono ?_
  rintro e w' ⟨rfl, d', hd⟩
  obtain ⟨a', dd⟩ := p.at_.setDisk hd
  obtain ⟨p', s'⟩ := p.step a' dd p.ok p.cm p.br
  exact ⟨rfl, _, p', s'⟩
/-- Write to a new page. -/
theorem pk_write_ok (p : Pk G w0 w b H S N) (hT : K.Tabs w0) (hN : N < 1000000000) (n : Int) (hn : 0 ≤ n ∧ n < S.D.size) (hF : S.Fr n = some ()) (k : UInt8) (s : ByteArray) (hs : s.size ≤ 1013) :
    Calls Tryz.prog 24 #[.pointer (some ⟨b, 0, none⟩), .int .i64 n, .int .u8 (K.oct k), .string s] w fun e w' => e = .returned (.int .i64 0) ∧ ∃ H', Pk G w0 w' b H' { S with D := (S.D.write n (K.sealS k s)).2 } (N + 1) ∧ SameG G w w' ∧ (S.D.write n (K.sealS k s)).2.size = S.D.size := by
  have hsz := p.ok.size
  have h := gwrite_any p.at_.cells p.at_.dev p.at_.disk p.ok hN (nf := KP) (S := S.Fr) p.at_.fresh (p.tabs hT) n (by omega) k s
  have e : gwr S.P S.Fr S.D n k s = S.D.write n (K.sealS k s) := by
    unfold gwr
    rw [if_neg (by rw [p.br]; simp), hF, if_neg (by simp), if_neg (by omega)]
  rw [e] at h
  obtain ⟨c1, c2, c3, c4, c5⟩ := cm_write p.cm (n := n) (has_of hn.1 hn.2) (K.sealS_size k hs)
  rw [c1] at h
  refine h.mono ?_
  rintro e w' ⟨rfl, d', hd⟩
  obtain ⟨a', dd⟩ := p.at_.setDisk hd
  obtain ⟨p', s'⟩ := p.step a' dd (write_ok p.ok _ _) c2 p.br
  exact ⟨rfl, _, p', s', c4⟩
/-- Use of no pages. -/
theorem pk_use (p : Pk G w0 w b H S N) (hu : S.P.used = false) (hpg : S.P.pages ≤ topPg) :
    Calls Tryz.prog 11 #[.pointer (some ⟨b, 0, none⟩), .slice none 0 0] w fun e w' => e = .returned (.int .i64 (totR (addI [] 2 S.P.pages))) ∧ ∃ H', Pk G w0 w' b H' S.useS N ∧ SameG G w w' := by
  refine (guse_none p.at_ hu hpg).mono ?_
  rintro e w' ⟨rfl, H', a', d'⟩
  obtain ⟨p', s'⟩ := p.step a' d' p.ok p.cm p.br
  exact ⟨rfl, _, p', s'⟩
/-- Commit. -/
theorem pk_commit (p : Pk G w0 w b H S N) (hT : K.Tabs w0) (hN : N + 3 < 1000000000) (root ents : Nat) (hre : root < 1000000000000 ∧ ents < 1000000000000) (htx : 0 ≤ S.P.tx ∧ S.P.tx < 1000000000000) (hst : 0 ≤ S.P.stop ∧ S.P.stop ≤ topPg) (hsz : 2 ≤ S.D.size)
    (hfd : ∀ u x, S.Fd u = some x → 0 ≤ u ∧ u < topPg ∧ ¬ inR S.L u) :
    Calls Tryz.prog 25 #[.pointer (some ⟨b, 0, none⟩), .int .i64 (root : Nat), .int .i64 (ents : Nat)] w fun e w' => e = .returned (.int .i64 0) ∧ ∃ H' L' D', Pk G w0 w' b H' ⟨{ S.P with used := true, tx := S.P.tx + 1, root := root, entries := ents, pages := S.P.stop, count := totR L' }, L', fun _ => none, fun _ => none, D'⟩ (N + 3) ∧ SameG G w w' ∧ D'.size = S.D.size ∧ (∀ q, q ∈ L' ↔ q ∈ S.L ∨ ∃ n, (S.Fd n).isSome = true ∧ q = (n, n + 1)) := by
  obtain ⟨a1, a2, a3, a4, a5⟩ := cm_sync p.cm
  have hsl : 0 ≤ slotOf (nextM S root ents).tx ∧ slotOf (nextM S root ents).tx < 2 := by
    unfold slotOf
    split <;> omega
  obtain ⟨b1, b2, b3, b4, b5⟩ := cm_write a2 (n := slotOf (nextM S root ents).tx) (has_of hsl.1 (by omega)) (K.metaS_size (nextM S root ents))
  obtain ⟨c1, c2, c3, c4, c5⟩ := cm_sync b2
  refine (gcommit_ok p.at_ (p.tabs hT) (p.top hT) p.br root ents hre htx hst hfd p.ok hN a1 b1 c1).mono ?_
  rintro e w' ⟨rfl, H', L', a', d', hm⟩
  obtain ⟨p', s'⟩ := p.step a' d' (sync_ok (write_ok (sync_ok p.ok) _ _)) c2 p.br
  exact ⟨rfl, H', L', _, p', s', by rw [c3, b4, a3], hm⟩
/-- Free of a page of the state. -/
theorem pk_free_state (p : Pk G w0 w b H S N) (hfr : ∀ u x, S.Fr u = some x → 0 ≤ u ∧ u < topPg ∧ ¬ inR S.L u) (hfd : ∀ u x, S.Fd u = some x → 0 ≤ u ∧ u < topPg) (hpg : S.P.pages ≤ topPg) (n : Int) (hn : 2 ≤ n ∧ n < S.P.pages) (h1 : S.Fr n = none) (h2 : ¬ inR S.L n) (h3 : S.Fd n = none)
    {g : Nat} {t : TypeId} (hg : Holds w g t #[.int .i64 n]) (hgf : ¬ PgFoot b H g) :
    Calls Tryz.prog 26 #[.pointer (some ⟨b, 0, none⟩), .slice (some ⟨g, 0, none⟩) 1 1] w fun e w' => e = .returned (.int .i64 1) ∧ ∃ H', Pk G w0 w' b H' ⟨{ S.P with used := true }, S.L, S.Fr, setM S.Fd n (some ()), S.D⟩ N ∧ SameG G w w' := by
  have e : freeS S.begun n = (true, ⟨{ S.P with used := true }, S.L, S.Fr, setM S.Fd n (some ()), S.D⟩) := by
    unfold freeS
    rw [if_neg (by show ¬ (S.Fr n).isSome = true; rw [h1]; simp), if_neg (by
      rintro (h | h | h | h)
      · omega
      · have : S.P.pages ≤ n := h
        omega
      · exact h2 h
      · have : (S.Fd n).isSome = true := h
        rw [h3] at this; cases this)]
    rfl
  unfold topPg at hpg
  have h := gfree_one p.at_ hfr hfd (by unfold topPg; exact hpg) n (by omega) hg hgf
  rw [e] at h
  refine h.mono ?_
  rintro e w' ⟨rfl, H', a', d'⟩
  obtain ⟨p', s'⟩ := p.step a' d' p.ok p.cm p.br
  exact ⟨rfl, H', p', s'⟩
end
end Go.Proofs.YtjklcnknbcmgoaaGreatDoor
