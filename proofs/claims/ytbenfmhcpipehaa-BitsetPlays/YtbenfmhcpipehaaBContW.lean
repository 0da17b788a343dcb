/-
  What the calls on one container do: has, with, count, joined, lows.
-/
import Derived.Test.YtbenfmhcpipehaaBMem
import Derived.Laws.BitsLemmas
import Derived.Deep.QuietTactic
import Derived.BigQuiet
import Derived.StillTail
namespace Go.Proofs.Ytbenfmhcpipehaa
open Go Go.RowKit

theorem and_one_u8 (v : Nat) (h : v < 256) : bits BinOp.and IntKind.u8 ((v : Nat) : Int) 1 = ((v % 2 : Nat) : Int) := by
  have := bits_mask .u8 8 (by decide) wraps_u8 1 (by decide) (v : Int) (by omega) (by omega)
  simpa using this
theorem or_u8 (a b : Nat) (ha : a < 256) (hb : b < 256) : bits BinOp.or IntKind.u8 (a : Int) (b : Int) = ((a ||| b : Nat) : Int) := (bits_nat .u8 8 (by decide) wraps_u8 a b ha hb).2

theorem has_bit (p : Nat → Bool) (low : Nat) : (bits BinOp.and IntKind.u8 (((bt p (low / 8) : Nat) : Int) / 2 ^ (low % 8)) 1 == 1) = p low := by
  have e : (((bt p (low / 8) : Nat) : Int) / 2 ^ (low % 8)) = ((bt p (low / 8) / 2 ^ (low % 8) : Nat) : Int) := by simp
  rw [e, and_one_u8 _ (Nat.lt_of_le_of_lt (Nat.div_le_self _ _) (bt_lt p _))]
  have h := bt_testBit p (low / 8) (low % 8) (by omega)
  rw [show 8 * (low / 8) + low % 8 = low by omega, Nat.testBit_eq_decide_div_mod_eq] at h
  rw [← h]
  rw [Bool.eq_iff_iff]
  simp
  omega

theorem has_any (p : Nat → Bool) (low : Nat) (w : World) (hl : low < 256) :
    Calls Try.prog 66 #[.agg (contA p), .int .i64 (low : Nat)] w fun e w' => e = .returned (.bool (p low)) ∧ Below w.heap.size w w' := by
  have hget := contA_get p (low / 8) (by omega)
  have hb := has_bit p low
  generalize contA p = cs at hget ⊢
  go_enter Try.func66, Try.ntmps66
  go_wp2_with fail
  go_ret
  exact ⟨rfl, (Below.refl _ w).alloc (Nat.le_refl _) _⟩

theorem or_two (p : Nat → Bool) (low : Nat) : bits BinOp.or IntKind.u8 ((bt p (low / 8) : Nat) : Int) (2 ^ (low % 8) % 256) = ((bt p (low / 8) ||| 2 ^ (low % 8) : Nat) : Int) := by
  have h2 : 2 ^ (low % 8) < 2 ^ 8 := Nat.pow_lt_pow_right (by omega) (Nat.mod_lt _ (by omega))
  have e : ((2 : Int) ^ (low % 8) % 256) = ((2 ^ (low % 8) : Nat) : Int) := by
    have e2 : ((2 : Int) ^ (low % 8)) = ((2 ^ (low % 8) : Nat) : Int) := by simp
    rw [e2]
    exact Int.emod_eq_of_lt (Int.natCast_nonneg _) (by omega)
  rw [e, or_u8 _ _ (bt_lt p _) (by omega)]

theorem with_any (p : Nat → Bool) (low : Nat) (w : World) (hl : low < 256) :
    Calls Try.prog 53 #[.agg (contA p), .int .i64 (low : Nat)] w fun e w' => e = .returned (.agg (contA fun l => decide (l = low) || p l)) ∧ Below w.heap.size w w' := by
  have hget := contA_get p (low / 8) (by omega)
  have hset := contA_with p low
  rw [← or_two p low] at hset
  generalize contA p = cs at hget hset ⊢
  go_enter Try.func53, Try.ntmps53
  go_wp2_with fail
  go_region
  rw [← zeroC]
  generalize hW : World.drew _ = W1
  have h1 : Holds W1 w.heap.size 74 (contA fun l => decide (l = low) || p l) := by rw [← hW]; exact ((Holds.new w _ _).alloc _).drew
  have h2 : Holds W1 (w.heap.size + 1) 74 (contA fun _ => false) := by
    rw [← hW]
    have := Holds.new (w.alloc (.cells (contA fun l => decide (l = low) || p l) 74)) 74 (contA fun _ => false)
    rw [World.size_alloc] at this
    exact this.drew
  have hB : Below w.heap.size w W1 := by rw [← hW]; exact (((Below.refl _ w).alloc (Nat.le_refl _) _).alloc (by simp) _).drew
  clear hW hset hget
  go_wp2_with (first
    | (refine wpList_ldC rfl _ rfl rfl h1 ?_)
    | (refine wpList_stC rfl _ _ rfl rfl rfl h2 ?_; intro W2 h3 hO hS))
  refine bodyPost_ret (results_contC rfl _ _ _ _ _ rfl h3) rfl ?_
  exact ⟨rfl, Only.fresh hB hO (by omega)⟩

theorem info57 (p : Nat → Bool) : (Try.prog.info? 72).map (·.size) = some (contA p).size := by
  rw [contA_size]; kernel_rfl

theorem run_idx {cs : Array Value} {k : Nat} {v : Value} (hk : k < 32) (hg : cs[k]? = some v) (w : World) : (Instr.index 72 (.agg cs) (.int .i64 (k : Nat))).run Try.prog w = .ok v w := by
  have hz : (sizeOf 5).run Try.prog w = .ok 1 w := by simp [go_sem]
  have ha : (isAgg 5).run Try.prog w = .ok false w := by simp [go_sem]
  simp [Instr.index, asIntOf, Sem.run_bind, run_underlying Try.underlying72, Result.andThen, hk, hz, part, ha, hg]

set_option maxRecDepth 8000 in
theorem count_any (ones : ∀ (v : Nat) (w : World), v < 256 → Calls Try.prog 67 #[.int .u8 (v : Nat)] w fun e w' => e = .returned (.int .i64 (pop v : Nat)) ∧ w' = w) (p : Nat → Bool) (w : World) :
    Calls Try.prog 45 #[.agg (contA p)] w fun e w' => e = .returned (.int .i64 (cnt p : Nat)) ∧ Below w.heap.size w w' := by
  have hget := contA_get p
  have HI : Hid _ := info57 p
  generalize contA p = cs at hget HI ⊢
  have h1 : Holds (w.alloc (.cells cs 74)) w.heap.size 74 cs := Holds.new _ _ _
  go_enter Try.func45, Try.ntmps45
  go_wp2_with (first
    | (refine wpList_loadH rfl 72 _ rfl _ rfl _ _ _ h1 Try.underlying72 rfl HI.out ?_))
  go_loopw [3, 5, 8] (fun n _ y wr => ∃ k : Nat, k ≤ 32 ∧ n = .int .i64 (cntTo p (8 * k) : Nat) ∧ y = .int .i64 (k : Nat) ∧ wr = w.alloc (.cells cs 74)) (fun _ _ y _ => 32 - (intOf y).toNat)
  case atStart => exact ⟨0, by omega, rfl, rfl, rfl⟩
  case round =>
    obtain ⟨k, hk, rfl, rfl, rfl⟩ := hrel
    have hc := cntTo_le p (8 * k)
    by_cases hlt : k < 32
    · have hki : (k : Int) < 32 := by omega
      have hk0 : (0 : Int) ≤ k := by omega
      have hg := run_idx hlt (hget k hlt)
      have ho := ones (bt p k) (w.alloc (.cells cs 74)) (bt_lt p k)
      have hpl := pop_le (bt p k)
      have hs := cntTo_byte p k
      have HS : Hid _ := hs
      clear hs hget
      go_wp2_with (first
        | (go_at_call 67; refine ho.mono ?_; rintro e w1 ⟨rfl, rfl⟩))
      go_roundw
      case rel => exact ⟨k + 1, by omega, by rw [HS.out]; simp, rfl, trivial⟩
      case measure => simp [intOf]; omega
    · have hki : ¬ (k : Int) < 32 := by omega
      have HK : Hid (k = 32) := by have : k = 32 := by omega
                                   exact this
      clear hget hk hlt hc
      go_wp2_with fail
      go_ret
      exact ⟨by rw [HK.out]; rfl, (Below.refl _ w).alloc (Nat.le_refl _) _⟩

/-- Two containers, the second one's bytes from k on as yet left out. -/
def joinTo (p q : Nat → Bool) (k : Nat) (l : Nat) : Bool := p l || (decide (l < 8 * k) && q l)
theorem joinTo_zero (p q : Nat → Bool) : contA (joinTo p q 0) = contA p := contA_congr fun l _ => by simp [joinTo]
theorem joinTo_end (p q : Nat → Bool) : contA (joinTo p q 32) = contA (fun l => p l || q l) := contA_congr fun l hl => by
  unfold joinTo
  rw [decide_eq_true (by omega)]
  rfl
theorem joinTo_at (p q : Nat → Bool) (k : Nat) : bt (joinTo p q k) k = bt p k := bt_congr fun j _ => by
  unfold joinTo
  rw [decide_eq_false (by omega)]
  simp
theorem joinTo_step (p q : Nat → Bool) (k : Nat) (hk : k < 32) : (contA (joinTo p q k)).setIfInBounds k (.int .u8 (bits BinOp.or IntKind.u8 ((bt p k : Nat) : Int) ((bt q k : Nat) : Int))) = contA (joinTo p q (k + 1)) := by
  rw [or_u8 _ _ (bt_lt p k) (bt_lt q k), ← bt_or]
  apply Array.ext
  · simp [contA]
  · intro j h1 h2
    by_cases e : j = k
    · subst e
      simp [contA]
      exact congrArg Nat.cast (bt_congr fun i hi => by
        unfold joinTo
        rw [decide_eq_true (by omega)]
        rfl)
    · rw [Array.getElem_setIfInBounds_ne (by simpa using h1) (fun q => e q.symm)]
      simp [contA]
      exact congrArg Nat.cast (bt_congr fun i hi => by
        unfold joinTo
        congr 2
        exact decide_eq_decide.2 (by omega))

set_option maxRecDepth 8000 in
theorem joined_any (p q : Nat → Bool) (w : World) :
    Calls Try.prog 46 #[.agg (contA p), .agg (contA q)] w fun e w' => e = .returned (.agg (contA fun l => p l || q l)) ∧ Below w.heap.size w w' := by
  have hgq := contA_get q
  have HI : Hid _ := info57 q
  have HP : Hid _ := fun (k : Nat) (hk : k < 32) => (⟨contA_get (joinTo p q k) k hk, joinTo_step p q k hk⟩ : _ ∧ _)
  rw [← joinTo_zero p q]
  generalize contA q = cq at hgq HI ⊢
  go_enter Try.func46, Try.ntmps46
  generalize hc0 : contA (joinTo p q 0) = cp
  have h1 : Holds (((w.alloc (.cells cp 74)).alloc (.cells cq 74)).alloc (.cells (contA fun _ => false) 74)) (w.heap.size + 1) 74 cq := by
    have := Holds.new (w.alloc (.cells cp 74)) 74 cq
    rw [World.size_alloc] at this
    exact this.alloc _
  have h0 : Holds (((w.alloc (.cells cp 74)).alloc (.cells cq 74)).alloc (.cells (contA fun _ => false) 74)) w.heap.size 74 cp := ((Holds.new _ _ _).alloc _).alloc _
  have h2 : Holds (((w.alloc (.cells cp 74)).alloc (.cells cq 74)).alloc (.cells (contA fun _ => false) 74)) (w.heap.size + 1 + 1) 74 (contA fun _ => false) := by
    have := Holds.new ((w.alloc (.cells cp 74)).alloc (.cells cq 74)) 74 (contA fun _ => false)
    rw [World.size_alloc, World.size_alloc] at this
    exact this
  have hB : Below w.heap.size w (((w.alloc (.cells cp 74)).alloc (.cells cq 74)).alloc (.cells (contA fun _ => false) 74)) := (((Below.refl _ w).alloc (Nat.le_refl _) _).alloc (by simp) _).alloc (by simp; omega) _
  rw [zeroC] at h1 h0 h2 hB
  go_wp2_with (first
    | (refine wpList_loadH rfl 72 _ rfl _ rfl _ _ _ h1 Try.underlying72 rfl HI.out ?_))
  rw [← zeroC] at h1 h0 h2 hB ⊢
  generalize ((w.alloc (.cells cp 74)).alloc (.cells cq 74)).alloc (.cells (contA fun _ => false) 74) = W0 at h1 h0 h2 hB ⊢
  subst hc0
  go_loopw [5, 6, 9] (fun _ _ y wr => ∃ k : Nat, k ≤ 32 ∧ y = .int .i64 (k : Nat) ∧ Holds wr w.heap.size 74 (contA (joinTo p q k)) ∧ Holds wr (w.heap.size + 1 + 1) 74 (contA fun _ => false) ∧ Below w.heap.size w wr) (fun _ _ y _ => 32 - (intOf y).toNat)
  case atStart => exact ⟨0, by omega, rfl, h0, h2, hB⟩
  case round =>
    obtain ⟨k, hk, rfl, g0, g2, gB⟩ := hrel
    by_cases hlt : k < 32
    · have hki : (k : Int) < 32 := by omega
      have hk0 : (0 : Int) ≤ k := by omega
      have hg := run_idx hlt (hgq k hlt)
      obtain ⟨hp1, hp2⟩ := HP.out k hlt
      have hcell := g0.cell k
      rw [hp1, joinTo_at] at hcell
      have hfr := g0.frozen k
      have G0 : Hid (Holds wr w.heap.size 74 (contA (joinTo p q k))) := g0
      have HP2 : Hid _ := hp2
      clear g0 hgq HP hp1 hp2 h1 h0 h2 hB
      go_wp2_with fail
      go_roundw
      case rel => exact ⟨k + 1, by omega, rfl, (G0.out.set k _).congr HP2.out, g2.other _ _ (by simp; omega), gB.setCell (p := ⟨w.heap.size, k, none⟩) (Nat.le_refl _) _⟩
      case measure => simp [intOf]; omega
    · have hki : ¬ (k : Int) < 32 := by omega
      have HK : Hid (k = 32) := by have : k = 32 := by omega
                                   exact this
      clear hgq hk hlt HP h1 h0 h2 hB
      go_wp2_with (first
        | (refine wpList_ldC rfl _ rfl rfl g0 ?_)
        | (refine wpList_stC rfl _ _ rfl rfl rfl g2 ?_; intro W2 h3 hO hS))
      refine bodyPost_ret (results_contC rfl _ _ _ _ _ rfl h3) rfl ?_
      exact ⟨by rw [HK.out, joinTo_end], Only.fresh gB hO (by omega)⟩

theorem lows_any (p : Nat → Bool) (f : Int) (w : World) :
    Calls Try.prog 65 #[.agg (contA p), .int .i64 f] w fun e w' => ∃ b, e = .returned (.func (.func 79) #[] #[.pointer (some ⟨b + 1, 0, none⟩), .pointer (some ⟨b, 0, none⟩)]) ∧ w.heap.size ≤ b ∧ Holds w' b 74 (contA p) ∧ Holds w' (b + 1) 3 #[.int .i64 f] ∧ Below w.heap.size w w' := by
  generalize contA p = cs
  go_enter Try.func65, Try.ntmps65
  go_wp2_with fail
  go_ret
  refine ⟨_, rfl, Nat.le_refl _, (Holds.new w _ _).alloc _, ?_, ((Below.refl _ w).alloc (Nat.le_refl _) _).alloc (by simp) _⟩
  have := Holds.new (w.alloc (.cells cs 74)) 3 #[.int .i64 f]
  rw [World.size_alloc] at this
  exact this
end Go.Proofs.Ytbenfmhcpipehaa
