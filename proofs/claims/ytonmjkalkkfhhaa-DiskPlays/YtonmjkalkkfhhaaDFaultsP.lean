/-
  What DiskFaults leans on: devices some of whose operations fail.
-/
import Derived.Test.YtonmjkalkkfhhaaDOwnG
import Derived.Test.YtonmjkalkkfhhaaDArmsW
namespace Go.Proofs.Ytonmjkalkkfhhaa
open Go Go.RowKit Go.Maps

/-- The page of a number. -/
def pg (j : Nat) : ByteArray := fillOf 1024 (UInt8.ofNat (j + 1))
theorem pg_size (j : Nat) : (pg j).size = 1024 := fillOf_size _ _
/-- Is the write of a number done? -/
def good (l : List Int) (j : Nat) : Bool := decide (((j : Int) + 1) ∉ l)
/-- The writes that are done, of the first ones. -/
def goods (l : List Int) : Nat → List (Int × ByteArray)
  | 0 => []
  | i + 1 => if good l i = true then goods l i ++ [((i : Int), pg i)] else goods l i
/-- A device behind so many writes. -/
structure Flt (l : List Int) (i : Nat) (D : Dev) : Prop where
  ok : D.ok i
  size : D.size = 20
  off : D.off = false
  armed : D.armed = false
  fails : D.fails = failsOf l
  count : D.count = i
  ops : D.ops = (goods l i).length
  writes : D.writes = goods l i
  pages : ∀ j : Nat, D.pages (j : Int) = if j < i ∧ good l j = true then some (pg j, ⟨#[]⟩) else none
theorem Flt.step {l : List Int} {i : Nat} {D : Dev} (h : Flt l i D) (hi : i < 20) : (D.write (i : Int) (pg i)).1 = (if good l i = true then 0 else 14) ∧ Flt l (i + 1) (D.write (i : Int) (pg i)).2 := by
  have hok2 := write_ok h.ok (i : Int) (pg i)
  have hr : (D.has (i : Int) && decide ((pg i).size = 1024)) = true := by
    unfold Dev.has
    rw [h.size, decide_eq_true (show (0 : Int) ≤ i by omega), decide_eq_true (show (i : Int) < 20 by omega), decide_eq_true (pg_size i)]
    rfl
  cases hg : good l i with
  | true =>
    have hno : ((i : Int) + 1) ∉ l := by unfold good at hg; exact of_decide_eq_true hg
    have hw := write_free (D := D) h.off h.armed (by rw [h.fails, h.count]; unfold failsOf; rw [if_neg hno]) (n := (i : Int)) (s := pg i) (by omega) (by rw [h.size]; omega) (pg_size i)
    rw [if_pos rfl]
    refine ⟨by rw [hw], ?_⟩
    rw [hw] at hok2 ⊢
    refine ⟨hok2, h.size, h.off, h.armed, h.fails, by dsimp only; rw [h.count]; omega, ?_, ?_, fun j => ?_⟩
    · dsimp only
      rw [h.ops, goods, if_pos hg]
      simp
    · dsimp only
      rw [h.writes, goods, if_pos hg]
    · dsimp only
      by_cases e : j = i
      · subst e
        rw [setM_same, if_pos ⟨by omega, hg⟩, h.pages j, if_neg (by omega)]
        rfl
      · rw [setM_other _ _ (by omega), h.pages j]
        by_cases q : j < i ∧ good l j = true
        · rw [if_pos q, if_pos ⟨by omega, q.2⟩]
        · rw [if_neg q, if_neg (fun r => q ⟨by omega, r.2⟩)]
  | false =>
    have hno : ((i : Int) + 1) ∈ l := by
      unfold good at hg
      have := of_decide_eq_false hg
      exact Decidable.not_not.1 this
    have hb : D.begin true = (14, { D with count := D.count + 1 }) := by
      rw [begin_on h.off, next_left (fun q => by rw [h.armed] at q; cases q.1), h.fails, h.count, h.armed]
      unfold failsOf
      rw [if_pos hno]
      simp [h.off]
    have hw : D.write (i : Int) (pg i) = (14, { D with count := D.count + 1 }) := by
      unfold Dev.write
      rw [hr, hb, if_neg (fun q => by cases q)]
    rw [if_neg (by decide)]
    refine ⟨by rw [hw], ?_⟩
    rw [hw] at hok2 ⊢
    have hgs : goods l (i + 1) = goods l i := by rw [goods, if_neg (by rw [hg]; decide)]
    refine ⟨hok2, h.size, h.off, h.armed, h.fails, by dsimp only; rw [h.count]; omega, ?_, ?_, fun j => ?_⟩
    · rw [hgs]; exact h.ops
    · rw [hgs]; exact h.writes
    · dsimp only
      rw [h.pages j]
      by_cases e : j = i
      · subst e
        rw [if_neg (by omega), if_neg (fun q => by rw [hg] at q; cases q.2)]
      · by_cases q : j < i ∧ good l j = true
        · rw [if_pos q, if_pos ⟨by omega, q.2⟩]
        · rw [if_neg q, if_neg (fun r => q ⟨by omega, r.2⟩)]
theorem sync_goods (D : Dev) (l : List Int) (M : Int → Option Pg) (j : Nat) : ∀ i, D.syncTo (goods l i) M (j : Int) = if j < i ∧ good l j = true then some (pg j, pg j) else M j
  | 0 => by rw [if_neg (by omega)]; rfl
  | i + 1 => by
    have ih := sync_goods D l M j i
    rw [goods]
    cases hg : good l i with
    | true =>
      rw [if_pos rfl, syncTo_app]
      by_cases e : j = i
      · subst e
        rw [setM_same, if_pos ⟨by omega, hg⟩]
      · rw [setM_other _ _ (by dsimp only; omega), ih]
        by_cases q : j < i ∧ good l j = true
        · rw [if_pos q, if_pos ⟨by omega, q.2⟩]
        · rw [if_neg q, if_neg (fun r => q ⟨by omega, r.2⟩)]
    | false =>
      rw [if_neg (by decide), ih]
      by_cases e : j = i
      · subst e
        rw [if_neg (by omega), if_neg (fun q => by rw [hg] at q; cases q.2)]
      · by_cases q : j < i ∧ good l j = true
        · rw [if_pos q, if_pos ⟨by omega, q.2⟩]
        · rw [if_neg q, if_neg (fun r => q ⟨by omega, r.2⟩)]
/-- A device that has just what was done. -/
structure Kept (l : List Int) (N : Nat) (D : Dev) : Prop where
  ok : D.ok N
  size : D.size = 20
  off : D.off = false
  armed : D.armed = false
  fails : D.fails = fun _ => none
  pages : ∀ j : Nat, j < 20 → (((D.pages (j : Int)).map (·.1)).getD zeros) = if good l j = true then pg j else zeros
/-- Without faults. -/
def Dev.cleared (D : Dev) : Dev := { D with armed := false, left := 0, fails := fun _ => Option.none, count := 0 }
theorem cleared_ok {D : Dev} {N : Nat} (h : D.ok N) : D.cleared.ok N := ⟨h.size, h.keys, h.texts, h.writes, h.many, h.ops, ⟨show (0 : Int) ≤ 0 by decide, show (0 : Int) ≤ 9223372036854775807 by decide⟩, ⟨show (0 : Int) ≤ 0 by decide, show (0 : Int) ≤ N by omega⟩⟩
theorem Kept.of {l : List Int} {D : Dev} (h : Flt l 20 D) (picks : List Int) : Kept l 21 (D.cleared.sync.2.crash picks) := by
  have hok := crash_ok (sync_ok (cleared_ok h.ok)) picks
  have hs := sync_free (D := D.cleared) h.off rfl rfl
  refine ⟨hok, by rw [hs]; exact h.size, rfl, rfl, rfl, fun j hj => ?_⟩
  have := sync_goods D.cleared l D.pages j 20
  have e : (D.cleared.sync.2.crash picks).pages (j : Int) = D.cleared.syncTo (goods l 20) D.pages (j : Int) := by
    rw [hs, ← h.writes]
    rfl
  rw [e, this]
  by_cases hg : good l j = true
  · rw [if_pos ⟨hj, hg⟩, if_pos hg]; rfl
  · rw [if_neg (fun q => hg q.2), if_neg hg, h.pages j, if_neg (fun q => hg q.2)]; rfl
theorem Kept.step {l : List Int} {N : Nat} {D : Dev} (h : Kept l N D) {j : Nat} (hj : j < 20) : D.read (j : Int) = (if good l j = true then pg j else zeros, 0, { D with count := D.count + 1, ops := D.ops + 1 }) ∧ Kept l (N + 1) { D with count := D.count + 1, ops := D.ops + 1 } := by
  have hr := read_free (D := D) h.off h.armed (by rw [h.fails]) (n := (j : Int)) (by omega) (by rw [h.size]; omega)
  have hok := read_ok h.ok (j : Int)
  rw [hr] at hok
  refine ⟨by rw [hr, h.pages j hj], hok, h.size, h.off, h.armed, h.fails, h.pages⟩
theorem take_mem (l : List Int) (k : Nat) (x y : Int) (hx : l[k]? = some x) : decide (y ∈ l.take (k + 1)) = (decide (y ∈ l.take k) || decide (x = y)) := by
  rw [List.take_add_one, hx, Option.toList_some, Bool.eq_iff_iff]
  simp
  constructor
  · rintro (h | h)
    · exact .inl h
    · exact .inr h.symm
  · rintro (h | h)
    · exact .inl h
    · exact .inr h.symm
end Go.Proofs.Ytonmjkalkkfhhaa
