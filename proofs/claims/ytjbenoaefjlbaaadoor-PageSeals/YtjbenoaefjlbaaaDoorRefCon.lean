/-
  What the call of the document's constants does.
-/
import Derived.Test.YtjbenoaefjlbaaaDoorRefOff
namespace Go.Proofs.YtjbenoaefjlbaaaDoor
open Go.RowKit

theorem bits_i64_nat (a b : Nat) (ha : a < 512) (hb : b < 512) : bits .and .i64 (a : Int) (b : Int) = ((a &&& b : Nat) : Int) ∧ bits .xor .i64 (a : Int) (b : Int) = ((a ^^^ b : Nat) : Int) := by
  have h1 : (BitVec.ofInt 64 (a : Int)).toNat = a := by
    rw [BitVec.ofInt_natCast, BitVec.toNat_ofNat]; exact Nat.mod_eq_of_lt (by omega)
  have h2 : (BitVec.ofInt 64 (b : Int)).toNat = b := by
    rw [BitVec.ofInt_natCast, BitVec.toNat_ofNat]; exact Nat.mod_eq_of_lt (by omega)
  have hx : a ^^^ b < 2 ^ 9 := Nat.xor_lt_two_pow (by omega) (by omega)
  have hn : a &&& b < 2 ^ 9 := Nat.and_lt_two_pow _ (by omega)
  constructor
  · show IntKind.i64.wrap ((BitVec.ofInt 64 (a : Int) &&& BitVec.ofInt 64 (b : Int)).toNat : Int) = _
    rw [BitVec.toNat_and, h1, h2]
    simp [IntKind.wrap, IntKind.bits, IntKind.signed]
    omega
  · show IntKind.i64.wrap ((BitVec.ofInt 64 (a : Int) ^^^ BitVec.ofInt 64 (b : Int)).toNat : Int) = _
    rw [BitVec.toNat_xor, h1, h2]
    simp [IntKind.wrap, IntKind.bits, IntKind.signed]
    omega

/-- The register, one step on. -/
def regStep (r : Nat) : Nat := if 128 ≤ r then (r * 2) ^^^ 256 ^^^ 64 ^^^ 32 ^^^ 16 ^^^ 1 else r * 2
def reg : Nat → Nat
  | 0 => 1
  | t + 1 => regStep (reg t)
theorem regStep_lt : ∀ r, r < 256 → regStep r < 256 := by decide +kernel
theorem reg_lt : ∀ t, reg t < 256
  | 0 => by decide
  | t + 1 => regStep_lt _ (reg_lt t)
theorem reg_bit : ∀ r, r < 256 → ((r * 2) &&& 256 = if 128 ≤ r then 256 else 0) ∧ (r &&& 1 = r % 2) := by decide +kernel
theorem reg_xor : ∀ r, r < 256 → 128 ≤ r → (r * 2) ^^^ 256 < 512 ∧ (r * 2) ^^^ 256 ^^^ 64 < 512 ∧ (r * 2) ^^^ 256 ^^^ 64 ^^^ 32 < 512 ∧ (r * 2) ^^^ 256 ^^^ 64 ^^^ 32 ^^^ 16 < 512 := by decide +kernel

/-- The constants, as far as the register has gone. -/
def conAt : Nat → Nat → BitVec 64
  | 0, _ => 0
  | t + 1, i => if i = t / 7 then conAt t i ||| BitVec.ofNat 64 (reg t % 2) <<< (2 ^ (t % 7) - 1) else conAt t i
theorem conAt_end : ∀ i, i < 24 → conAt 168 i = rcs i := by decide +kernel

def lanes24 (s : Nat → BitVec 64) : Array Value := Array.ofFn (n := 24) fun i => .int .u64 (lane (s i.val))
theorem lanes24_size (s : Nat → BitVec 64) : (lanes24 s).size = 24 := by simp [lanes24]
theorem lanes24_get (s : Nat → BitVec 64) (i : Nat) (h : i < 24) : (lanes24 s)[i]? = some (.int .u64 (lane (s i))) := by simp [lanes24, h]
theorem lanes24_congr {s s' : Nat → BitVec 64} (h : ∀ i, i < 24 → s i = s' i) : lanes24 s = lanes24 s' := by
  unfold lanes24
  congr 1
  funext i
  rw [h i.val i.isLt]
theorem lanes24_set (s : Nat → BitVec 64) (i : Nat) (v : BitVec 64) : (lanes24 s).setIfInBounds i (.int .u64 (lane v)) = lanes24 (fun j => if j = i then v else s j) := by
  apply Array.ext
  · simp [lanes24]
  · intro j h1 h2
    by_cases e : j = i
    · subst e; simp [lanes24]
    · rw [Array.getElem_setIfInBounds_ne (by simpa using h1) (fun q => e q.symm)]
      simp [lanes24, e]
theorem lanes24_one (s : Nat → BitVec 64) : (lanes24 s).all (·.oneCell') = true := by
  refine Array.all_eq_true_iff_forall_mem.2 fun v hv => ?_
  obtain ⟨i, rfl⟩ := Array.mem_ofFn.1 hv
  rfl
theorem info24 : (Tryd.prog.info? 87).map (·.size) = some 24 := by kernel_rfl
theorem con_step (b : Nat) (t : TypeId) (k : Nat) (w : World) (h : Holds w b t (lanes24 (conAt k))) :
    Holds (w.setCell ⟨b, k / 7, none⟩ (.int .u64 (lane (conAt k (k / 7) ||| BitVec.ofNat 64 (reg k % 2) <<< (2 ^ (k % 7) - 1))))) b t (lanes24 (conAt (k + 1))) := by
  refine ((h.set _ _).congr (lanes24_set _ _ _)).congr (lanes24_congr fun j _ => ?_)
  by_cases e : j = k / 7
  · rw [if_pos e, conAt, if_pos e, e]
  · rw [if_neg e, conAt, if_neg e]
theorem lane_two (m : Nat) : ((m % 2 : Nat) : Int) = lane (BitVec.ofNat 64 (m % 2)) := by
  unfold lane
  rw [BitVec.toNat_ofNat, Nat.mod_eq_of_lt (show m % 2 < 2 ^ 64 by omega)]

theorem two_shl (r m : Nat) (hm : m < 64) : (r : Int) % 2 * 2 ^ m = lane (BitVec.ofNat 64 (r % 2) <<< m) := by
  have h := lane_shl (BitVec.ofNat 64 (r % 2)) m
  rw [← lane_two] at h
  rw [← h, IntKind.wrap_u64]
  have h2 : (2 : Int) ^ m ≤ 9223372036854775808 := by
    have : 2 ^ m ≤ 2 ^ 63 := Nat.pow_le_pow_right (by omega) (by omega)
    have h5 : ((2 ^ m : Nat) : Int) ≤ ((2 ^ 63 : Nat) : Int) := Int.ofNat_le.2 this
    simpa using h5
  have h3 : (0 : Int) < 2 ^ m := Int.pow_pos (by omega)
  rw [show (r : Int) % 2 = ((r % 2 : Nat) : Int) by omega]
  generalize (2 : Int) ^ m = z at h2 h3
  have h4 : r % 2 = 0 ∨ r % 2 = 1 := by omega
  rcases h4 with h4 | h4
  · rw [h4]; simp
  · rw [h4, show ((1 : Nat) : Int) = 1 from rfl, Int.one_mul]
    omega
theorem or_shl (v : BitVec 64) (r e : Nat) (he : 2 ^ e - 1 < 64) (X : Int) (hX : X = (r : Int) % 2 * 2 ^ (2 ^ e - 1)) : bits .or .u64 (lane v) X = lane (v ||| BitVec.ofNat 64 (r % 2) <<< (2 ^ e - 1)) := by
  rw [hX, two_shl r _ he, lane_or]
theorem reg_chain (r : Nat) (hr : r < 256) (h : 128 ≤ r) :
    bits .xor .i64 (bits .xor .i64 (bits .xor .i64 (bits .xor .i64 (bits .xor .i64 ((r : Int) * 2) 256) 64) 32) 16) 1 = ((regStep r : Nat) : Int) := by
  obtain ⟨h1, h2, h3, h4⟩ := reg_xor r hr h
  have e1 := (bits_i64_nat (r * 2) 256 (by omega) (by omega)).2
  have e2 := (bits_i64_nat _ 64 h1 (by omega)).2
  have e3 := (bits_i64_nat _ 32 h2 (by omega)).2
  have e4 := (bits_i64_nat _ 16 h3 (by omega)).2
  have e5 := (bits_i64_nat _ 1 h4 (by omega)).2
  have e0 : (r : Int) * 2 = ((r * 2 : Nat) : Int) := by omega
  unfold regStep
  rw [if_pos h, ← e5]
  show bits .xor .i64 (bits .xor .i64 (bits .xor .i64 (bits .xor .i64 (bits .xor .i64 ((r : Int) * 2) ((256 : Nat) : Int)) ((64 : Nat) : Int)) ((32 : Nat) : Int)) ((16 : Nat) : Int)) ((1 : Nat) : Int) = _
  rw [e0, e1, e2, e3, e4]

set_option maxRecDepth 4000 in
set_option maxHeartbeats 2000000 in
theorem refConstants_any (w : World) :
    Calls Tryd.prog 45 #[] w fun e w' => e = .returned (.agg (lanes24 rcs)) ∧ Below w.heap.size w w' := by
  go_enter Tryd.func45, Tryd.ntmps45
  go_wp2
  obtain ⟨n, hn⟩ : ∃ n, n = w.heap.size := ⟨_, rfl⟩
  rw [← hn]
  have HN : Hid (n = w.heap.size) := hn
  clear hn
  go_loopw [2, 3] (fun sr st wr => ∃ k : Nat, k ≤ 168 ∧ st = .int .i64 k ∧ sr = .int .i64 (reg k : Nat) ∧ Below w.heap.size w wr ∧ (∃ f, Holds wr n 87 (lanes24 f)) ∧ Holds wr (n + 1) 87 (lanes24 (conAt k))) (fun _ st _ => 168 - (intOf st).toNat)
  case atStart =>
    refine ⟨0, by omega, rfl, rfl, ((Below.refl _ _).alloc (Nat.le_refl _) _).alloc (by simp) _, ⟨fun _ => 0, ?_⟩, ?_⟩
    · rw [HN.out]; exact (Holds.new w 87 (lanes24 fun _ => 0)).alloc _
    · have h := Holds.new (w.alloc (.cells (lanes24 fun _ => 0) 87)) 87 (lanes24 fun _ => 0)
      rw [World.size_alloc, ← HN.out] at h
      exact h
  case round =>
    obtain ⟨k, hk, rfl, rfl, hB, ⟨f, hf0⟩, hh⟩ := hrel
    by_cases hlt : k < 168
    · have hk1 : (k : Int) < 168 := by omega
      have hstep := con_step (n + 1) 87 k wr hh
      have hrl := reg_lt k
      obtain ⟨hb1, hb2⟩ := reg_bit (reg k) hrl
      have hcell := hh.cell (k / 7)
      rw [lanes24_get _ _ (by omega)] at hcell
      have hfr := hh.frozen
      have hreg : reg (k + 1) = regStep (reg k) := rfl
      obtain ⟨r, hr⟩ : ∃ r, r = reg k := ⟨_, rfl⟩
      rw [← hr] at hstep hrl hb1 hb2 hreg ⊢
      have hand1 := (bits_i64_nat r 1 (by omega) (by omega)).1
      rw [hb2, show ((1 : Nat) : Int) = 1 from rfl] at hand1
      have hand2 := (bits_i64_nat (r * 2) 256 (by omega) (by omega)).1
      rw [hb1, show ((256 : Nat) : Int) = 256 from rfl, show ((r * 2 : Nat) : Int) = (r : Int) * 2 from by omega] at hand2
      obtain ⟨v, hv⟩ : ∃ v, v = conAt k (k / 7) := ⟨_, rfl⟩
      rw [← hv] at hcell hstep
      have HS : Hid _ := hstep
      have HG : Hid (reg (k + 1) = regStep r) := hreg
      have HB : Hid (Below w.heap.size w wr) := hB
      have hr0 : (r : Int) < 256 := by omega
      obtain ⟨e, he⟩ : ∃ e, e = k % 7 := ⟨_, rfl⟩
      have he7 : e < 7 := by omega
      have hem : (k : Int) % 7 = (e : Int) := by omega
      have HE : Hid (e = k % 7) := he
      have hr1 : (0 : Int) ≤ ((r % 2 : Nat) : Int) ∧ ((r % 2 : Nat) : Int) ≤ 1 := by omega
      clear hr hstep hreg hh hB hb1 hb2 hv hrl he
      have hcases : e = 0 ∨ e = 1 ∨ e = 2 ∨ e = 3 ∨ e = 4 ∨ e = 5 ∨ e = 6 := by omega
      by_cases h128 : 128 ≤ r
      · rw [if_pos h128] at hand2
        rcases hcases with rfl | rfl | rfl | rfl | rfl | rfl | rfl
        · go_wp2
          go_roundw
          case rel =>
            have q := or_shl v r 0 (by omega) ((r : Int) % 2) (by simp)
            have hs := HS.out
            rw [← HE.out] at hs
            rw [q]
            refine ⟨k + 1, by omega, rfl, ?_, Only.fresh HB.out ((Only.refl _ _).set _ _) (by have := HN.out; omega), ⟨f, Holds.other hf0 _ _ (by simp)⟩, hs⟩
            rw [HG.out, reg_chain r (by omega) h128]
          case measure => simp [intOf]; omega
        · go_wp2
          go_roundw
          case rel =>
            have q := or_shl v r 1 (by omega) ((r : Int) % 2 * 2) (by simp)
            have hs := HS.out
            rw [← HE.out] at hs
            rw [q]
            refine ⟨k + 1, by omega, rfl, ?_, Only.fresh HB.out ((Only.refl _ _).set _ _) (by have := HN.out; omega), ⟨f, Holds.other hf0 _ _ (by simp)⟩, hs⟩
            rw [HG.out, reg_chain r (by omega) h128]
          case measure => simp [intOf]; omega
        · go_wp2
          go_roundw
          case rel =>
            have q := or_shl v r 2 (by omega) ((r : Int) % 2 * 8) (by simp)
            have hs := HS.out
            rw [← HE.out] at hs
            rw [q]
            refine ⟨k + 1, by omega, rfl, ?_, Only.fresh HB.out ((Only.refl _ _).set _ _) (by have := HN.out; omega), ⟨f, Holds.other hf0 _ _ (by simp)⟩, hs⟩
            rw [HG.out, reg_chain r (by omega) h128]
          case measure => simp [intOf]; omega
        · go_wp2
          go_roundw
          case rel =>
            have q := or_shl v r 3 (by omega) ((r : Int) % 2 * 128) (by simp)
            have hs := HS.out
            rw [← HE.out] at hs
            rw [q]
            refine ⟨k + 1, by omega, rfl, ?_, Only.fresh HB.out ((Only.refl _ _).set _ _) (by have := HN.out; omega), ⟨f, Holds.other hf0 _ _ (by simp)⟩, hs⟩
            rw [HG.out, reg_chain r (by omega) h128]
          case measure => simp [intOf]; omega
        · go_wp2
          go_roundw
          case rel =>
            have q := or_shl v r 4 (by omega) ((r : Int) % 2 * 32768) (by simp)
            have hs := HS.out
            rw [← HE.out] at hs
            rw [q]
            refine ⟨k + 1, by omega, rfl, ?_, Only.fresh HB.out ((Only.refl _ _).set _ _) (by have := HN.out; omega), ⟨f, Holds.other hf0 _ _ (by simp)⟩, hs⟩
            rw [HG.out, reg_chain r (by omega) h128]
          case measure => simp [intOf]; omega
        · go_wp2
          go_roundw
          case rel =>
            have q := or_shl v r 5 (by omega) ((r : Int) % 2 * 2147483648) (by simp)
            have hs := HS.out
            rw [← HE.out] at hs
            rw [q]
            refine ⟨k + 1, by omega, rfl, ?_, Only.fresh HB.out ((Only.refl _ _).set _ _) (by have := HN.out; omega), ⟨f, Holds.other hf0 _ _ (by simp)⟩, hs⟩
            rw [HG.out, reg_chain r (by omega) h128]
          case measure => simp [intOf]; omega
        · go_wp2
          go_roundw
          case rel =>
            have q := or_shl v r 6 (by omega) ((r : Int) % 2 * 9223372036854775808) (by simp)
            have hs := HS.out
            rw [← HE.out] at hs
            rw [q]
            refine ⟨k + 1, by omega, rfl, ?_, Only.fresh HB.out ((Only.refl _ _).set _ _) (by have := HN.out; omega), ⟨f, Holds.other hf0 _ _ (by simp)⟩, hs⟩
            rw [HG.out, reg_chain r (by omega) h128]
          case measure => simp [intOf]; omega
      · rw [if_neg h128, show ((0 : Nat) : Int) = 0 from rfl] at hand2
        rcases hcases with rfl | rfl | rfl | rfl | rfl | rfl | rfl
        · go_wp2
          go_roundw
          case rel =>
            have q := or_shl v r 0 (by omega) ((r : Int) % 2) (by simp)
            have hs := HS.out
            rw [← HE.out] at hs
            rw [q]
            refine ⟨k + 1, by omega, rfl, ?_, Only.fresh HB.out ((Only.refl _ _).set _ _) (by have := HN.out; omega), ⟨f, Holds.other hf0 _ _ (by simp)⟩, hs⟩
            rw [HG.out]; unfold regStep; rw [if_neg h128]; rfl
          case measure => simp [intOf]; omega
        · go_wp2
          go_roundw
          case rel =>
            have q := or_shl v r 1 (by omega) ((r : Int) % 2 * 2) (by simp)
            have hs := HS.out
            rw [← HE.out] at hs
            rw [q]
            refine ⟨k + 1, by omega, rfl, ?_, Only.fresh HB.out ((Only.refl _ _).set _ _) (by have := HN.out; omega), ⟨f, Holds.other hf0 _ _ (by simp)⟩, hs⟩
            rw [HG.out]; unfold regStep; rw [if_neg h128]; rfl
          case measure => simp [intOf]; omega
        · go_wp2
          go_roundw
          case rel =>
            have q := or_shl v r 2 (by omega) ((r : Int) % 2 * 8) (by simp)
            have hs := HS.out
            rw [← HE.out] at hs
            rw [q]
            refine ⟨k + 1, by omega, rfl, ?_, Only.fresh HB.out ((Only.refl _ _).set _ _) (by have := HN.out; omega), ⟨f, Holds.other hf0 _ _ (by simp)⟩, hs⟩
            rw [HG.out]; unfold regStep; rw [if_neg h128]; rfl
          case measure => simp [intOf]; omega
        · go_wp2
          go_roundw
          case rel =>
            have q := or_shl v r 3 (by omega) ((r : Int) % 2 * 128) (by simp)
            have hs := HS.out
            rw [← HE.out] at hs
            rw [q]
            refine ⟨k + 1, by omega, rfl, ?_, Only.fresh HB.out ((Only.refl _ _).set _ _) (by have := HN.out; omega), ⟨f, Holds.other hf0 _ _ (by simp)⟩, hs⟩
            rw [HG.out]; unfold regStep; rw [if_neg h128]; rfl
          case measure => simp [intOf]; omega
        · go_wp2
          go_roundw
          case rel =>
            have q := or_shl v r 4 (by omega) ((r : Int) % 2 * 32768) (by simp)
            have hs := HS.out
            rw [← HE.out] at hs
            rw [q]
            refine ⟨k + 1, by omega, rfl, ?_, Only.fresh HB.out ((Only.refl _ _).set _ _) (by have := HN.out; omega), ⟨f, Holds.other hf0 _ _ (by simp)⟩, hs⟩
            rw [HG.out]; unfold regStep; rw [if_neg h128]; rfl
          case measure => simp [intOf]; omega
        · go_wp2
          go_roundw
          case rel =>
            have q := or_shl v r 5 (by omega) ((r : Int) % 2 * 2147483648) (by simp)
            have hs := HS.out
            rw [← HE.out] at hs
            rw [q]
            refine ⟨k + 1, by omega, rfl, ?_, Only.fresh HB.out ((Only.refl _ _).set _ _) (by have := HN.out; omega), ⟨f, Holds.other hf0 _ _ (by simp)⟩, hs⟩
            rw [HG.out]; unfold regStep; rw [if_neg h128]; rfl
          case measure => simp [intOf]; omega
        · go_wp2
          go_roundw
          case rel =>
            have q := or_shl v r 6 (by omega) ((r : Int) % 2 * 9223372036854775808) (by simp)
            have hs := HS.out
            rw [← HE.out] at hs
            rw [q]
            refine ⟨k + 1, by omega, rfl, ?_, Only.fresh HB.out ((Only.refl _ _).set _ _) (by have := HN.out; omega), ⟨f, Holds.other hf0 _ _ (by simp)⟩, hs⟩
            rw [HG.out]; unfold regStep; rw [if_neg h128]; rfl
          case measure => simp [intOf]; omega
    · have hk1 : ¬ (k : Int) < 168 := by omega
      have hkk : k = 168 := by omega
      subst hkk
      have hh2 : Holds wr (n + 1) 87 (lanes24 rcs) := hh.congr (lanes24_congr conAt_end)
      clear hh
      have hin : (Tryd.prog.info? 87).map (·.size) = some (lanes24 rcs).size := by rw [lanes24_size]; exact info24
      have hzs : (lanes24 f).size = (lanes24 rcs).size := by rw [lanes24_size, lanes24_size]
      have hon := lanes24_one rcs
      generalize hcs : lanes24 rcs = cs at hin hzs hon hh2
      have HCS : Hid (lanes24 rcs = cs) := hcs
      clear hcs
      go_wp2_with (first
        | (refine wpList_loadH rfl 87 _ rfl (n + 1) rfl 87 cs _ hh2 Tryd.underlying87 rfl hin ?_)
        | (refine wpList_storeH rfl 87 _ _ rfl n cs rfl rfl 87 _ hf0 hin hzs hon ?_
           intro w1 h1 o1 z1))
      rw [← HCS.out] at h1 hin
      exact bodyPost_ret (results_cellH rfl _ _ n 87 (lanes24 rcs) _ rfl h1 Tryd.underlying87 rfl hin) rfl
        ⟨rfl, Only.fresh hB o1 (by have := HN.out; omega)⟩

end Go.Proofs.YtjbenoaefjlbaaaDoor
