/-
  '==' on metas.
-/
import Derived.Test.YtjklcnknbcmgoaaGreatDoorPB
import Derived.Laws.StructEq
namespace Go.Proofs.YtjklcnknbcmgoaaGreatDoor.K
open Go Go.RowKit

theorem guardMeta : Tryz.prog.eqGuardType Tryz.prog.depth 43 = false := by kernel_rfl
theorem eql_meta (w : World) (t r e q t' r' e' q' : Int) : (Op.equalIn 10000 43 (.agg #[.int .i64 t, .int .i64 r, .int .i64 e, .int .i64 q]) (.agg #[.int .i64 t', .int .i64 r', .int .i64 e', .int .i64 q'])).run Tryz.prog w = .ok ((t == t') && (r == r') && (e == e') && (q == q')) w := by
  rw [run_equalIn_struct w 9999 43 _ _ (by kernel_rfl) (by kernel_rfl)]
  go_simp
  by_cases h1 : t = t' <;> by_cases h2 : r = r' <;> by_cases h3 : e = e' <;> by_cases h4 : q = q' <;> simp [h1, h2, h3, h4]
theorem eql_same (m : M4) (w : World) : (Op.equalIn 10000 43 (.agg #[.int .i64 m.tx, .int .i64 m.root, .int .i64 m.ents, .int .i64 m.pgs]) (.agg #[.int .i64 m.tx, .int .i64 m.root, .int .i64 m.ents, .int .i64 m.pgs])).run Tryz.prog w = .ok true w := by
  rw [eql_meta]
  simp
theorem eql_unlike {m n : M4} (h : m ≠ n) (w : World) : (Op.equalIn 10000 43 (.agg #[.int .i64 m.tx, .int .i64 m.root, .int .i64 m.ents, .int .i64 m.pgs]) (.agg #[.int .i64 n.tx, .int .i64 n.root, .int .i64 n.ents, .int .i64 n.pgs])).run Tryz.prog w = .ok false w := by
  rw [eql_meta]
  congr 1
  apply Bool.eq_false_iff.2
  intro q
  simp only [Bool.and_eq_true, beq_iff_eq, Int.natCast_inj] at q
  obtain ⟨m1, m2, m3, m4⟩ := m
  obtain ⟨n1, n2, n3, n4⟩ := n
  obtain ⟨⟨⟨h1, h2⟩, h3⟩, h4⟩ := q
  dsimp only at h1 h2 h3 h4
  exact h (by rw [h1, h2, h3, h4])
theorem meta_ne {m n : M4} (hm : m.small) (hn : n.small) (h : m ≠ n) : metaS m ≠ metaS n := fun q => h (by
  have e := read_meta m hm
  rw [q, read_meta n hn] at e
  injection e with e
  exact e.symm)
/-- The cells of a meta. -/
theorem Holds.four {w : World} {b : Nat} {t r e q : Int} (h : Holds w b 43 #[.int .i64 t, .int .i64 r, .int .i64 e, .int .i64 q]) :
    w.cell? ⟨b, 0, none⟩ = some (.int .i64 t) ∧ w.cell? ⟨b, 1, none⟩ = some (.int .i64 r) ∧ w.cell? ⟨b, 2, none⟩ = some (.int .i64 e) ∧ w.cell? ⟨b, 3, none⟩ = some (.int .i64 q) := ⟨h.cell 0, h.cell 1, h.cell 2, h.cell 3⟩
end Go.Proofs.YtjklcnknbcmgoaaGreatDoor.K
