/-
  The laws' transactions: a store that is opened, what its state reads.
-/
import Derived.Test.YtjklcnknbcmgoaaGreatDoorGTxArg
import Derived.Test.YtjklcnknbcmgoaaGreatDoorGAwake
namespace Go.Proofs.YtjklcnknbcmgoaaGreatDoor
open Go Go.RowKit Go.Maps

set_option maxRecDepth 8000 in
theorem pk_open2 {w0 w : World} {h : Hd} {D : Dev} (a : DiskAt w h D) (hnew : ∀ k, Blk h k → w0.heap.size ≤ k) (hB : Below w0.heap.size w0 w) (cm : Cm D) (hz : 2 ≤ D.size) (hp : ∀ n, D.pages n = none) {N : Nat} (ok : D.ok N) (hN : N + 5 < 1000000000) (hT : K.Tabs w0) :
    Calls Tryz.prog 10 #[.pointer (some ⟨h.b, 0, none⟩)] w fun e w' => ∃ b H D', e = .returned (.tuple #[.pointer (some ⟨b, 0, none⟩), .int .i64 0]) ∧ Pk (fun _ => False) w0 w' b H ⟨⟨0, 0, 0, 2, 2, 0, false, false, 0⟩, [], fun _ => none, fun _ => none, D'⟩ (N + 4) ∧ D'.size = D.size ∧ D'.writes = [] := by
  obtain ⟨f1, f2, f3, f4, f5, f6, f7⟩ := found_new cm hz hp
  obtain ⟨s1, s2, s3, s4, s5⟩ := cm_sync f3
  have hzs : zeros.size ≤ 9223372036854775807 := by rw [zeros_size]; decide
  refine (gopen_any a ok hN (hT.below hB) (fun k hk => Nat.le_trans hT.size (hnew k hk.blk)) (by rw [f5]; exact hzs) (by rw [f6]; exact hzs) hz (f7 N ok)).mono ?_
  rintro e w' (⟨er, ⟨h1, _⟩ | ⟨_, h1, _⟩, h2, _⟩ | ⟨b, rfl, h2, g1, g2, hd, hc, hm1, hm2, hne, n1, n2, l1, l2, l3⟩)
  · exact absurd (h1.trans f2) h2
  · exact absurd (h1.trans s1) h2
  · refine ⟨b, ⟨⟨h.b, none, .slice none 0 0, g1, g2⟩, h2⟩, _, rfl, ⟨⟨?_, hd.newer.1.symm, hd.at_, SpAt.empty w', MapAt.mono hm1 (Nat.zero_le _), MapAt.mono hm2 (Nat.zero_le _), hne, ⟨by simp, by simp⟩, ⟨n1, n2⟩, fun m e => by cases e⟩, ?_, ?_, fun k g => g.elim, sync_ok (f7 N ok), s2, rfl⟩, s3.trans f4, s5⟩
    · rw [f1] at hc
      exact hc
    · rintro k (q | q | q | q | q | q)
      · exact ⟨by have := hB.size; omega, fun g => g⟩
      · cases q
      · cases q
      · exact ⟨by have := hB.size; dsimp only at q; omega, fun g => g⟩
      · exact ⟨by have := hB.size; dsimp only at q; omega, fun g => g⟩
      · rcases hd.newer.2 k q with f | f
        · exact ⟨hnew k f.blk, fun g => g⟩
        · exact ⟨by have := hB.size; omega, fun g => g⟩
    · exact hd.keep.fresh hB (fun k hk => hnew k hk.blk)
theorem below_drewR {B : Nat} {a w : World} (h : Below B a w) : Below B a w.drew := ⟨h.os, h.tape, h.output, h.size, h.block⟩
def S0 (D : Dev) : St := ⟨⟨0, 0, 0, 2, 2, 0, false, true, 0⟩, [], fun _ => none, fun _ => none, D⟩
theorem sta_start {G : Nat → Prop} {w0 w : World} {b : Nat} {H : Hs} {D : Dev} {N : Nat} (p : Pk G w0 w b H (S0 D) N) (hw : D.writes = []) : Sta G w0 w b H (S0 D) N 0 (.slice none 0 0) (.slice none 0 0) [] [] :=
  ⟨p, ⟨rfl, ⟨by show (2 : Int) ≤ 2; decide, by show (2 : Int) ≤ 65536; decide⟩, ⟨by show (2 : Int) ≤ 2; decide, by show (2 : Int) ≤ 2; decide⟩, p.at_.sp.srt, (fun q hq => by cases hq), (fun q hq => by cases hq), (fun u x h => by cases h), (fun u x h => by cases h), fun u h1 h2 => absurd (show (2 : Int) ≤ u from h1) (by have : u < (2 : Int) := h2; omega)⟩,
    fun n t h => (by rw [show (S0 D).D.writes = [] from hw] at h; cases h), rfl, rfl, rfl, rfl, OI.nil _ _, OT.nil _ _, rfl, (fun k hk => by cases hk), (fun k hk => by cases hk), List.Pairwise.nil,
    fun n => ⟨fun h => absurd h.1 (by have h2 : n < (2 : Int) := h.2.1; omega), fun h => by cases h⟩, (fun i n t h => by simp at h), rfl, Int.le_refl _⟩
section
variable {G : Nat → Prop} {w0 w w' : World} {b : Nat} {H : Hs} {S : St} {N : Nat} {tx : Int} {vp vt : Value} {ps : List Int} {ts : List ByteArray}
theorem Sta.swap {G' : Nat → Prop} {H' : Hs} {N' : Nat} (s : Sta G w0 w b H S N tx vp vt ps ts) (p : Pk G' w0 w' b H' S N') (hp : ∀ k, vp.ownBlock = some k → G' k ∧ w'.heap[k]? = w.heap[k]?) (ht : ∀ k, vt.ownBlock = some k → G' k ∧ w'.heap[k]? = w.heap[k]?) : Sta G' w0 w' b H' S N' tx vp vt ps ts :=
  ⟨p, s.iv, s.fw, s.used, s.fr, s.fd, s.st, s.oi.block (fun k hk => (hp k hk).2), s.ot.block (fun k hk => (ht k hk).2), s.len, fun k hk => (hp k hk).1, fun k hk => (ht k hk).1, s.nd, s.us, s.rd, s.txe, s.tx0⟩
theorem Sta.below (s : Sta G w0 w b H S N tx vp vt ps ts) (hB : Below w.heap.size w w') : Sta G w0 w' b H S N tx vp vt ps ts :=
  s.swap (s.pk.below hB) (fun k hk => ⟨s.gp k hk, hB.block k (s.pk.kept k (s.gp k hk))⟩) (fun k hk => ⟨s.gt k hk, hB.block k (s.pk.kept k (s.gt k hk))⟩)
theorem Sta.more {G' : Nat → Prop} (s : Sta G w0 w b H S N tx vp vt ps ts) (hB : Below w.heap.size w w') (hG : ∀ k, G' k → (G k ∨ w.heap.size ≤ k) ∧ k < w'.heap.size) (hG2 : ∀ k, G k → G' k) : Sta G' w0 w' b H S N tx vp vt ps ts :=
  s.swap (s.pk.more hB hG) (fun k hk => ⟨hG2 k (s.gp k hk), hB.block k (s.pk.kept k (s.gp k hk))⟩) (fun k hk => ⟨hG2 k (s.gt k hk), hB.block k (s.pk.kept k (s.gt k hk))⟩)
/-- The law's box of a state is turned. -/
theorem Sta.turn {g : Nat} {cs : Array Value} (s : Sta G w0 w b H S N tx vp vt ps ts) (hg : G g) (h0 : w0.heap.size ≤ g) (hh : Holds w g 34 cs) (hO : Only g w w') : Sta G w0 w' b H S N tx vp vt ps ts :=
  s.swap (s.pk.turn (T := fun k => k = g) (Keep.only hO rfl) (fun k hk => by subst hk; exact ⟨hg, h0, _, _, hh, by decide, by decide⟩))
    (fun k hk => ⟨s.gp k hk, by obtain ⟨cur, hc⟩ := s.oi.obj hk; exact hO.block k hc.lt (hc.ne hh (by decide))⟩) (fun k hk => ⟨s.gt k hk, by obtain ⟨cur, hc⟩ := s.ot.obj hk; exact hO.block k hc.lt (hc.ne hh (by decide))⟩)
theorem Sta.has (s : Sta G w0 w b H S N tx vp vt ps ts) (hT : K.Tabs w0) (hN : N + ps.length < 1000000000) (hr : 0 ≤ S.P.reads ∧ S.P.reads < 1000000000000) (hsz : S.P.stop ≤ S.D.size) :
    Calls Tryz.prog 18 #[.agg #[.int .i64 tx, vp, vt], .pointer (some ⟨b, 0, none⟩)] w fun e w' => e = .returned (.bool true) ∧ ∃ D', Sta G w0 w' b H { S with P := { S.P with reads := S.P.reads + ps.length }, D := D' } (N + ps.length) tx vp vt ps ts ∧ D'.size = S.D.size ∧ SameG G w w' := by
  refine (has10_any s.pk hT tx s.oi s.ot s.len hN s.gp s.gt hr s.fw (fun i n t hi ht => ?_)).mono ?_
  · obtain ⟨r1, r2⟩ := s.rd i n t hi ht
    have hu := (s.us n).2 (List.mem_of_getElem? hi)
    have h1 := s.iv.pg
    exact ⟨by have := hu.1; omega, by have := hu.2.1; omega, r1, r2⟩
  · rintro e w' ⟨rfl, D', p', f', g', z', m'⟩
    refine ⟨by rw [s.txe]; simp, D', ⟨p', ⟨s.iv.br, s.iv.stop, s.iv.pg, s.iv.srt, s.iv.run, s.iv.one, s.iv.fr, s.iv.fd, s.iv.cov⟩, f', s.used, s.fr, s.fd, s.st, s.oi.block (fun k hk => m' k (s.gp k hk)), s.ot.block (fun k hk => m' k (s.gt k hk)), s.len, s.gp, s.gt, s.nd, s.us, fun i n t hi ht => ?_, s.txe, s.tx0⟩, z', m'⟩
    rw [g' n]
    exact s.rd i n t hi ht
theorem Sta.write_no (s : Sta G w0 w b H S N tx vp vt ps ts) (hT : K.Tabs w0) (hN : N < 1000000000) (n : Int) (hn : -9223372036854775808 ≤ n ∧ n ≤ 9223372036854775807) (x : ByteArray) :
    Calls Tryz.prog 24 #[.pointer (some ⟨b, 0, none⟩), .int .i64 n, .int .u8 84, .string x] w fun e w' => e = .returned (.int .i64 1) ∧ ∃ H', Sta G w0 w' b H' S N tx vp vt ps ts ∧ SameG G w w' := by
  have h := pk_write_no s.pk hT hN n hn (by rw [s.fr]) 84 x
  rw [show K.oct 84 = 84 from rfl] at h
  refine h.mono ?_
  rintro e w' ⟨rfl, H', p', m'⟩
  exact ⟨rfl, H', s.swap p' (fun k hk => ⟨s.gp k hk, m' k (s.gp k hk)⟩) (fun k hk => ⟨s.gt k hk, m' k (s.gt k hk)⟩), m'⟩
end
end Go.Proofs.YtjklcnknbcmgoaaGreatDoor
