/-
  What the call of Open does.
-/
import Derived.Test.YtjbenoaefjlbaaaDoorPSealW
namespace Go.Proofs.YtjbenoaefjlbaaaDoor
open Go Go.RowKit

theorem getD_get (p : ByteArray) (i : Nat) (h : i < p.size) : p[i] = p.data.toList.getD i 0 := by
  rw [List.getD_eq_getElem?_getD, List.getElem?_eq_getElem (by exact h), Option.getD_some]
  rfl
/-- What Open tells. -/
def openK (p : ByteArray) : Value := .int .u8 (match openS p with | none => 0 | some (k, _) => oct k)
def openB (p : ByteArray) : Value := .string (match openS p with | none => ⟨#[]⟩ | some (_, b) => b)
def openE (p : ByteArray) : Value := .int .i64 (match openS p with | none => 17 | some _ => 0)
theorem open_no {p : ByteArray} (h : openS p = none) : openK p = .int .u8 0 ∧ openB p = .string ⟨#[]⟩ ∧ openE p = .int .i64 17 := by
  unfold openK openB openE
  rw [h]
  exact ⟨rfl, rfl, rfl⟩
theorem open_yes {p : ByteArray} {k : UInt8} {b : ByteArray} (h : openS p = some (k, b)) : openK p = .int .u8 (oct k) ∧ openB p = .string b ∧ openE p = .int .i64 0 := by
  unfold openK openB openE
  rw [h]
  exact ⟨rfl, rfl, rfl⟩
theorem then_normal {K : Act → World → Prop} {Q : Exit → Act → World → Prop} {a : Act} {w : World} (h : K a w) : Exit.then K Q .normal a w := h
theorem text_ne {a b : ByteArray} (h : a ≠ b) : (a.toList == b.toList) = false := by
  rw [ByteArray.toList_eq, ByteArray.toList_eq]
  exact beq_eq_false_iff_ne.2 fun e => h (bytes_ext e)
theorem below_drewn (B : Nat) (w : World) (n : Nat) : Below B w (w.drewN n) := ⟨rfl, rfl, rfl, Nat.le_refl _, fun _ _ => rfl⟩
theorem or_two (x y : Nat) (hx : x < 256) (hy : y < 256) : bits .or .i64 ((x : Int) * 256) (y : Int) = ((256 * x + y : Nat) : Int) := by
  have e3 := Nat.two_pow_add_eq_or_of_lt (i := 8) (b := y) (by omega) x
  have e4 : (BitVec.ofInt 64 ((x : Int) * 256)).toNat = 2 ^ 8 * x := by rw [BitVec.toNat_ofInt]; omega
  have e5 : (BitVec.ofInt 64 (y : Int)).toNat = y := by rw [BitVec.toNat_ofInt]; omega
  show IntKind.i64.wrap (((BitVec.ofInt 64 ((x : Int) * 256)) ||| (BitVec.ofInt 64 (y : Int))).toNat : Nat) = _
  rw [BitVec.toNat_or, e4, e5, ← e3, IntKind.wrap_i64]
  omega
theorem size_or (p : ByteArray) (h : p.size = 1024) : bits .or .i64 (wrap64 (wrap64 ((p[1]'(by omega)).toNat : Nat) * 256)) (wrap64 ((p[2]'(by omega)).toNat : Nat)) = ((szP p : Nat) : Int) := by
  have h1 := (p[1]'(by omega)).toNat_lt
  have h2 := (p[2]'(by omega)).toNat_lt
  rw [show wrap64 ((p[1]'(by omega)).toNat : Int) = ((p[1]'(by omega)).toNat : Int) by unfold wrap64; omega, show wrap64 ((p[2]'(by omega)).toNat : Int) = ((p[2]'(by omega)).toNat : Int) by unfold wrap64; omega,
    show wrap64 (((p[1]'(by omega)).toNat : Int) * 256) = ((p[1]'(by omega)).toNat : Int) * 256 by unfold wrap64; omega, or_two _ _ h1 h2]
  unfold szP
  rw [getD_get p 1, getD_get p 2]
set_option maxRecDepth 4000 in
set_option maxHeartbeats 1000000 in
theorem open_any (p : ByteArray) (w : World) (hT : Tabs w) (hp : p.size ≤ 9223372036854775807) :
    Calls Tryd.prog 11 #[.string p] w fun e w' => e = .returned (.tuple #[openK p, openB p, openE p]) ∧ Below w.heap.size w w' := by
  by_cases h : p.size = 1024
  · have h1 : (p.size : Int) = 1024 := by omega
    go_enter Tryd.func11, Tryd.ntmps11
    go_wp2_with fail
    go_quiet (fail)
    refine then_normal ?_
    go_at_K
    rw [size_or p h]
    obtain ⟨z, hz⟩ : ∃ z, z = szP p := ⟨_, rfl⟩
    rw [← hz]
    have HZ : Hid (z = szP p) := hz
    clear hz
    by_cases hl : z ≤ 1013
    · have hli : ¬ (1013 : Int) < z := by omega
      go_wp2_with fail
      go_quiet (fail)
      refine then_normal ?_
      go_at_K
      go_wp2_with fail
      have hxs : (p.extract 11 (11 + z)).size ≤ 1013 := by rw [ByteArray.size_extract]; omega
      refine (seal_any (p[0]'(by omega)) _ _ (hT.below (below_drewn _ _ _)) hxs).mono ?_
      rintro e w2 ⟨rfl, hB2⟩
      have hB : Below w.heap.size w w2 := (below_drewn w.heap.size w _).trans hB2
      obtain ⟨S, hS⟩ : ∃ S, S = sealS (p[0]'(by omega)) (p.extract 11 (11 + z)) := ⟨_, rfl⟩
      rw [← hS]
      have hk : p[0]'(by omega) = p.data.toList.getD 0 0 := getD_get p 0 (by omega)
      have HS : Hid (S = sealS (p.data.toList.getD 0 0) (p.extract 11 (11 + szP p))) := by unfold Hid; rw [hS, hk, HZ.out]
      clear hS hB2
      by_cases hq : S = p
      · subst hq
        have ho : openS S = some (S.data.toList.getD 0 0, S.extract 11 (11 + szP S)) := by
          have := HS.out
          unfold openS
          rw [if_pos ⟨h, by rw [← HZ.out]; exact hl, this.symm⟩]
        obtain ⟨e1, e2, e3⟩ := open_yes ho
        rw [← hk] at e1
        rw [← HZ.out] at e2
        have E : Hid (openK S = _ ∧ openB S = _ ∧ openE S = _) := ⟨e1, e2, e3⟩
        clear e1 e2 e3 ho hk
        go_wp2_with fail
        go_ret3
        rw [E.out.1, E.out.2.1, E.out.2.2]
        exact ⟨rfl, hB⟩
      · have hqq := text_ne hq
        have ho : openS p = none := by
          unfold openS
          rw [if_neg]
          exact fun q => hq (HS.out.trans q.2.2)
        obtain ⟨e1, e2, e3⟩ := open_no ho
        have E : Hid (openK p = _ ∧ openB p = _ ∧ openE p = _) := ⟨e1, e2, e3⟩
        clear e1 e2 e3 ho hk
        go_wp2_with fail
        go_ret3
        rw [E.out.1, E.out.2.1, E.out.2.2]
        exact ⟨rfl, hB⟩
    · have hli : (1013 : Int) < z := by omega
      obtain ⟨e1, e2, e3⟩ := open_no (p := p) (by unfold openS; rw [if_neg]; rw [← HZ.out]; exact fun q => hl q.2.1)
      go_wp2_with fail
      go_ret3
      rw [e1, e2, e3]
      exact ⟨rfl, below_drewn _ _ _⟩
  · have h1 : ¬ (p.size : Int) = 1024 := by omega
    obtain ⟨e1, e2, e3⟩ := open_no (p := p) (by unfold openS; rw [if_neg]; exact fun q => h q.1)
    rw [e1, e2, e3]
    go_enter Tryd.func11, Tryd.ntmps11
    go_wp2_with fail
    go_ret3
    exact ⟨rfl, Below.refl _ _⟩
end Go.Proofs.YtjbenoaefjlbaaaDoor
