/-
  A device without faults.
-/
import Derived.Test.YtjklcnknbcmgoaaGreatDoorGD
namespace Go.Proofs.YtjklcnknbcmgoaaGreatDoor
open Go Go.RowKit Go.Maps

/-- On, not armed, no operation fails. -/
structure Cm (D : Dev) : Prop where
  on : D.off = false
  arm : D.armed = false
  no : ∀ k, D.fails k = none
theorem cm_begin {D : Dev} (h : Cm D) : (D.begin true).1 = 0 ∧ Cm (D.begin true).2 := by
  have e : D.next.1 = 0 := by
    unfold Dev.next
    rw [if_neg (by rw [h.arm]; simp), h.no]
    rfl
  have e2 : D.next.2.armed = D.armed ∧ D.next.2.fails = D.fails := by
    unfold Dev.next
    rw [if_neg (by rw [h.arm]; simp)]
    exact ⟨rfl, rfl⟩
  unfold Dev.begin
  rw [if_neg (by rw [h.on]; simp), if_pos rfl]
  refine ⟨e, ⟨?_, ?_, ?_⟩⟩
  · show decide (D.next.1 = 15) = false
    rw [e]; rfl
  · show D.next.2.armed = false
    rw [e2.1]; exact h.arm
  · intro k
    show D.next.2.fails k = none
    rw [e2.2]; exact h.no k
theorem cm_read {D : Dev} (h : Cm D) {n : Int} (hn : D.has n = true) : (D.read n).1 = ((D.pages n).map (·.1)).getD zeros ∧ (D.read n).2.1 = 0 ∧ Cm (D.read n).2.2 ∧ (D.read n).2.2.pages = D.pages ∧ (D.read n).2.2.size = D.size ∧ (D.read n).2.2.writes = D.writes := by
  have hb := cm_begin h
  have hp := begin_pages D true
  unfold Dev.read
  rw [hn, if_pos hb.1]
  exact ⟨rfl, rfl, hb.2, hp.1, hp.2.2.2, hp.2.1⟩
theorem cm_write {D : Dev} (h : Cm D) {n : Int} (hn : D.has n = true) {s : ByteArray} (hs : s.size = 1024) : (D.write n s).1 = 0 ∧ Cm (D.write n s).2 ∧ (D.write n s).2.pages = setM D.pages n (some (s, ((D.pages n).getD (⟨#[]⟩, ⟨#[]⟩)).2)) ∧ (D.write n s).2.size = D.size ∧ (D.write n s).2.writes = D.writes ++ [(n, s)] := by
  have hb := cm_begin h
  have hp := begin_pages D true
  unfold Dev.write
  rw [hn, decide_eq_true hs]
  simp only [Bool.and_true]
  rw [if_pos hb.1]
  exact ⟨rfl, ⟨hb.2.on, hb.2.arm, hb.2.no⟩, rfl, hp.2.2.2, rfl⟩
theorem cm_sync {D : Dev} (h : Cm D) : D.sync.1 = 0 ∧ Cm D.sync.2 ∧ D.sync.2.size = D.size ∧ D.sync.2.pages = D.syncTo D.writes D.pages ∧ D.sync.2.writes = [] := by
  have hb := cm_begin h
  have hp := begin_pages D true
  unfold Dev.sync
  rw [if_pos hb.1]
  exact ⟨rfl, ⟨hb.2.on, hb.2.arm, hb.2.no⟩, hp.2.2.2, rfl, rfl⟩
theorem cm_new (n : Int) : Cm (Dev.new n) := ⟨rfl, rfl, fun _ => rfl⟩
theorem has_of {D : Dev} {n : Int} (h0 : 0 ≤ n) (h1 : n < D.size) : D.has n = true := by
  unfold Dev.has
  simp [h0, h1]
/-- What Open finds on a device on which nothing was ever written. -/
theorem found_new {D : Dev} (h : Cm D) (hz : 2 ≤ D.size) (hp : ∀ n, D.pages n = none) : (foundP D).1 = ⟨0, 0, 0, 2⟩ ∧ (foundP D).2.1 = 0 ∧ Cm (foundP D).2.2 ∧ (foundP D).2.2.size = D.size ∧ (D.read 0).1 = zeros ∧ ((D.read 0).2.2.read 1).1 = zeros ∧ ∀ N, D.ok N → (foundP D).2.2.ok (N + 3) := by
  obtain ⟨a1, a2, a3, a4, a5, _⟩ := cm_read h (n := 0) (has_of (by decide) (by omega))
  obtain ⟨b1, b2, b3, b4, b5, _⟩ := cm_read a3 (n := 1) (has_of (by decide) (by omega))
  obtain ⟨c1, c2, c3, c4, c5⟩ := cm_write b3 (n := 0) (has_of (by decide) (by omega)) (K.metaS_size ⟨0, 0, 0, 2⟩)
  have e1 : (D.read 0).1 = zeros := by rw [a1, hp]; rfl
  have e2 : ((D.read 0).2.2.read 1).1 = zeros := by rw [b1, a4, hp]; rfl
  have e : foundP D = (⟨0, 0, 0, 2⟩, (((D.read 0).2.2.read 1).2.2.write 0 (K.metaS ⟨0, 0, 0, 2⟩)).1, (((D.read 0).2.2.read 1).2.2.write 0 (K.metaS ⟨0, 0, 0, 2⟩)).2) := by
    unfold foundP
    rw [if_neg (by rw [a2]; simp), if_neg (by rw [b2]; simp), if_pos ⟨e1, e2⟩]
  rw [e]
  exact ⟨rfl, c1, c2, c4.trans (b5.trans a5), e1, e2, fun N ok => write_ok (read_ok (read_ok ok _) _) _ _⟩
end Go.Proofs.YtjklcnknbcmgoaaGreatDoor
