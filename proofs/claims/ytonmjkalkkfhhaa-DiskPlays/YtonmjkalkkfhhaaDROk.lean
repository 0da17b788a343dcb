/-
  What the document's device keeps within.
-/
import Derived.Test.YtonmjkalkkfhhaaDRCrashW
namespace Go.Proofs.Ytonmjkalkkfhhaa
open Go Go.RowKit Go.Maps

section
variable {R : RDev} {N : Nat}
theorem zero_in : (0 : Int) ≤ 0 ∧ (0 : Int) ≤ 9223372036854775807 := by decide
theorem RDev.ok.mono (h : R.ok N) {M : Nat} (hM : N ≤ M) : R.ok M :=
  ⟨h.left, ⟨h.since.1, by have := h.since.2; omega⟩, ⟨h.done.1, by have := h.done.2; omega⟩, h.most, h.fails, h.lasts, by have := h.puts; omega, h.pages⟩
theorem kept_in (n : Int) : 0 ≤ keptP n ∧ keptP n ≤ 65536 := by unfold keptP; omega
theorem RDev.new_ok (n : Int) (N : Nat) : (RDev.new n).ok N :=
  ⟨zero_in, ⟨zero_in.1, by show (0 : Int) ≤ N; omega⟩, ⟨zero_in.1, by show (0 : Int) ≤ N; omega⟩, kept_in n, Nat.zero_le _, Nat.zero_le _, Nat.zero_le _, fun p hp => (by cases hp)⟩
theorem RDev.ok.limit (h : R.ok N) (n : Int) : ({ R with most := keptP n } : RDev).ok N := ⟨h.left, h.since, h.done, kept_in n, h.fails, h.lasts, h.puts, h.pages⟩
theorem RDev.ok.arm (h : R.ok N) (n : Int) (hn : n ≤ 9223372036854775807) : ({ R with armed := true, left := max n 0 } : RDev).ok N := ⟨⟨by show 0 ≤ max n 0; omega, by show max n 0 ≤ _; omega⟩, h.since, h.done, h.most, h.fails, h.lasts, h.puts, h.pages⟩
theorem RDev.ok.clear (h : R.ok N) : ({ R with armed := false, left := 0, fails := [] } : RDev).ok N := ⟨zero_in, h.since, h.done, h.most, Nat.zero_le _, h.lasts, h.puts, h.pages⟩
theorem RDev.ok.fail (h : R.ok N) (l : List Int) (hl : l.length ≤ 9223372036854775807) : ({ R with fails := l, since := 0 } : RDev).ok N := ⟨h.left, ⟨zero_in.1, by show (0 : Int) ≤ N; omega⟩, h.done, h.most, hl, h.lasts, h.puts, h.pages⟩
theorem RDev.ok.goes (h : R.ok N) : R.goes.2.ok (N + 1) := by
  have h0 := h.left
  have h1 := h.since
  have h2 := h.done
  have h3 := h.puts
  unfold RDev.goes
  split
  · exact ⟨h.left, ⟨h1.1, by dsimp only; omega⟩, ⟨h2.1, by dsimp only; omega⟩, h.most, h.fails, h.lasts, by dsimp only; omega, h.pages⟩
  · rename_i hq
    have hlf : 0 ≤ (if R.armed = true then R.left - 1 else R.left) ∧ (if R.armed = true then R.left - 1 else R.left) ≤ 9223372036854775807 := by
      split
      · rename_i ha
        have : R.left ≠ 0 := fun e => hq ⟨ha, e⟩
        omega
      · omega
    split
    · exact ⟨hlf, ⟨by dsimp only; omega, by dsimp only; omega⟩, ⟨h2.1, by dsimp only; omega⟩, h.most, h.fails, h.lasts, by dsimp only; omega, h.pages⟩
    · exact ⟨hlf, ⟨by dsimp only; omega, by dsimp only; omega⟩, ⟨by dsimp only; omega, by dsimp only; omega⟩, h.most, h.fails, h.lasts, by dsimp only; omega, h.pages⟩
theorem RDev.ok.begin (h : R.ok N) (r : Bool) : (R.begin r).2.ok (N + 1) := by
  unfold RDev.begin
  split
  · exact h.mono (by omega)
  · split
    · exact h.goes
    · exact h.mono (by omega)
theorem RDev.ok.read (h : R.ok N) (n : Int) : (R.read n).2.2.ok (N + 1) := by
  unfold RDev.read
  split
  · exact h.begin _
  · exact h.begin _
theorem begin_most (R : RDev) (r : Bool) : (R.begin r).2.most = R.most ∧ (R.begin r).2.fails = R.fails := by
  unfold RDev.begin RDev.goes
  split
  · exact ⟨rfl, rfl⟩
  · split
    · split
      · exact ⟨rfl, rfl⟩
      · split <;> exact ⟨rfl, rfl⟩
    · exact ⟨rfl, rfl⟩
theorem RDev.ok.write (h : R.ok N) (n : Int) (s : ByteArray) : (R.write n s).2.ok (N + 1) := by
  unfold RDev.write
  split
  · rename_i e
    have hb := h.begin (R.has n && decide (s.size = 1024))
    have hr := begin_right e
    simp only [Bool.and_eq_true, decide_eq_true_eq] at hr
    have hh := hr.1
    unfold RDev.has at hh
    simp only [Bool.and_eq_true, decide_eq_true_eq] at hh
    have hm := h.most
    have hp := h.puts
    refine ⟨hb.left, hb.since, hb.done, hb.most, hb.fails, hb.lasts, by dsimp only; rw [List.length_append]; simp; omega, fun p q => ?_⟩
    rcases List.mem_append.1 q with q | q
    · exact h.pages p q
    · rw [List.mem_singleton.1 q]
      exact ⟨⟨by dsimp only; omega, by dsimp only; omega⟩, hr.2⟩
  · exact h.begin _
theorem RDev.ok.sync (h : R.ok N) : R.sync.2.ok (N + 1) := by
  unfold RDev.sync
  split
  · have hb := h.begin true
    exact ⟨hb.left, hb.since, hb.done, hb.most, hb.fails, syncL_len _ _ h.lasts h.pages, Nat.zero_le _, fun p hp => (by cases hp)⟩
  · exact h.begin _
theorem RDev.ok.crash (h : R.ok N) (picks : List Int) : (R.crash picks).ok N :=
  ⟨zero_in, h.since, h.done, h.most, Nat.zero_le _, crashL_len _ _ _ h.lasts h.pages, Nat.zero_le _, fun p hp => (by cases hp)⟩
end
end Go.Proofs.Ytonmjkalkkfhhaa
