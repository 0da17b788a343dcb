/-
  The least bit of a mask, as the library finds it.
-/
import Derived.Test.YtbidoangdnmjfaaDoorMPure
import Derived.Test.YtbidoangdnmjfaaDoorDQTail
import Derived.Test.YtbidoangdnmjfaaDoorRows
import Derived.RowKit3
import Derived.WalkKit
import Derived.Laws.Unary
import Derived.OwnWalk
import Derived.Lib.Strings
import Derived.Deep.OwnRows
import Derived.Deep.QuietTactic
import Derived.BigQuiet
namespace Go.Proofs.YtbidoangdnmjfaaDoor
open Go Go.RowKit

/-- The library's table in its variable. -/
def DbAt (w : World) : Prop := ∀ j, j < 32 → w.cell? ⟨0, j, none⟩ = some (.int .u8 (Lib.deBruijn32tab.getD j 0 : Nat))
theorem DbAt.below {w w' : World} (h : DbAt w) (hb : Below w.heap.size w w') : DbAt w' := fun j hj => by
  have h1 := h j hj
  exact (hb.cell (p := ⟨0, j, none⟩) (World.block_lt_of_cell? w _ h1)).trans h1

theorem tz_key {m : Nat} (h0 : m ≠ 0) (hm : m < 65536) : bits BinOp.and IntKind.u16 (m : Int) (IntKind.u16.wrap (-(m : Int))) = ((2 ^ lowM m : Nat) : Int) := by
  obtain ⟨q, hq, hk⟩ := lowM_spec h0 hm
  generalize lowM m = k at hq hk ⊢
  have e1 : IntKind.u16.wrap (-(m : Int)) = ((65536 - m : Nat) : Int) := by rw [wrap_u16]; omega
  rw [e1, and_u16 m _ hm (by omega)]
  have := Lib.and_neg 16 k q (by rw [← hq]; exact hm)
  rw [← hq] at this
  exact congrArg _ this
theorem tz_idx {k : Nat} (hk : k < 16) : ∃ i, i < 32 ∧ ((2 ^ k : Nat) : Int) * 125613361 % 4294967296 / 134217728 = (i : Nat) ∧ Lib.deBruijn32tab.getD i 0 = k := by
  obtain ⟨h1, h2⟩ := Lib.deBruijn32_at k (by omega)
  refine ⟨_, h1, ?_, h2⟩
  generalize 2 ^ k = p
  omega
theorem tz_any {m : Nat} (h0 : m ≠ 0) (hm : m < 65536) {w : World} (hT : DbAt w) : Calls Tryd.prog 38 #[.int .u16 (m : Nat)] w fun e w' => e = .returned (.int .i64 (lowM m : Nat)) ∧ w' = w := by
  have hk := low_lt h0 hm
  have key := tz_key h0 hm
  generalize lowM m = k at hk key ⊢
  obtain ⟨i, hi, hx, ht⟩ := tz_idx hk
  have hc := hT i hi
  rw [ht] at hc
  have hp : 2 ^ k < 65536 := pow_lt16 hk
  obtain ⟨p, hpe⟩ : ∃ p, 2 ^ k = p := ⟨_, rfl⟩
  rw [hpe] at key hp hx
  clear hpe ht
  have hm0 : ((m : Int) == 0) = false := by simp; omega
  have hpi : (p : Int) % 4294967296 = p := by omega
  have hii : (i : Int) < 32 := by omega
  have hki : (k : Int) < 256 := by omega
  clear hT
  go_enter Tryd.func38, Tryd.ntmps38
  go_wp2_with (simp only [key, hx])

  go_ret
  exact ⟨rfl, rfl⟩
end Go.Proofs.YtbidoangdnmjfaaDoor
