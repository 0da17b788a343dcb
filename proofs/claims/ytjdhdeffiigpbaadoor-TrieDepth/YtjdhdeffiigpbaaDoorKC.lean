/-
  Texts of this claim, put together.
-/
import Derived.Test.YtjdhdeffiigpbaaDoorKA
import Derived.Test.YtjdhdeffiigpbaaDoorKB
import Derived.Deep.QuietTactic
import Derived.BigQuiet
import Derived.Deep.Quiet
import Derived.Laws.AppendOwn
import Derived.Laws.OwnMore
import Derived.Lib.AppendStr
/-
  What the calls of the document's rot and offsets do.
-/
namespace Go.Proofs.YtjdhdeffiigpbaaDoor.K
open Go.RowKit

theorem rotl_zero (x : BitVec 64) : rotl x 0 = x := by
  apply BitVec.eq_of_getLsbD_eq
  intro i hi
  unfold rotl
  rw [BitVec.getLsbD_or, BitVec.getLsbD_shiftLeft, BitVec.getLsbD_ushiftRight, BitVec.getLsbD_of_ge x (64 - 0 + i) (by omega)]
  simp [hi]

set_option maxHeartbeats 400000 in
theorem refRot_any (x : BitVec 64) (k : Nat) (w : World) (hk : k < 64) :
    Calls Tryd.prog 65 #[.int .u64 (lane x), .int .i64 k] w fun e w' => e = .returned (.int .u64 (lane (rotl x k))) ∧ w' = w := by
  have hx0 := lane_nn x
  have hx1 := lane_lt x
  by_cases h0 : k = 0
  · subst h0
    go_enter Tryd.func65, Tryd.ntmps65
    go_wp2
    go_ret
    rw [rotl_zero]
    exact ⟨rfl, rfl⟩
  · have h1 : (0 : Int) < k := by omega
    have h2 : (k : Int) < 64 := by omega
    have h3 : ((k : Int) == 0) = false := by simp; omega
    go_enter Tryd.func65, Tryd.ntmps65
    go_wp2
    go_ret
    refine ⟨?_, rfl⟩
    show Ending.returned (Value.int IntKind.u64 (bits BinOp.or IntKind.u64 (IntKind.u64.wrap (lane x * 2 ^ k)) (lane x / 2 ^ (64 - k)))) = _
    rw [lane_shl, lane_shr, lane_or]
    rfl

/-- Numbers as cells. -/
def intsA (n : Nat) (f : Nat → Nat) : Array Value := Array.ofFn (n := n) fun i => .int .i64 (f i.val : Nat)
theorem intsA_size (n : Nat) (f : Nat → Nat) : (intsA n f).size = n := by simp [intsA]
theorem intsA_get (n : Nat) (f : Nat → Nat) (i : Nat) (h : i < n) : (intsA n f)[i]? = some (.int .i64 (f i : Nat)) := by simp [intsA, h]
theorem intsA_congr {n : Nat} {f g : Nat → Nat} (h : ∀ i, i < n → f i = g i) : intsA n f = intsA n g := by
  unfold intsA
  congr 1
  funext i
  rw [h i.val i.isLt]
theorem intsA_set (n : Nat) (f : Nat → Nat) (i v : Nat) : (intsA n f).setIfInBounds i (.int .i64 (v : Nat)) = intsA n (fun j => if j = i then v else f j) := by
  apply Array.ext
  · simp [intsA]
  · intro j h1 h2
    by_cases e : j = i
    · subst e; simp [intsA]
    · rw [Array.getElem_setIfInBounds_ne (by simpa using h1) (fun q => e q.symm)]
      simp [intsA, e]
theorem intsA_one (n : Nat) (f : Nat → Nat) : (intsA n f).all (·.oneCell') = true := by
  refine Array.all_eq_true_iff_forall_mem.2 fun v hv => ?_
  obtain ⟨i, rfl⟩ := Array.mem_ofFn.1 hv
  rfl

/-- The way of the lanes: x, y, and which one comes when. -/
def wayX : Nat → Nat := fun k => [1, 0, 2, 1, 2, 3, 3, 0, 1, 3, 1, 4, 4, 0, 3, 4, 3, 2, 2, 0, 4, 2, 4, 1, 1].getD k 0
def wayY : Nat → Nat := fun k => [0, 2, 1, 2, 3, 3, 0, 1, 3, 1, 4, 4, 0, 3, 4, 3, 2, 2, 0, 4, 2, 4, 1, 1, 0].getD k 0
def wayT : Nat → Nat := fun j => [24, 0, 18, 6, 12, 7, 23, 2, 9, 22, 1, 3, 17, 16, 20, 13, 8, 4, 5, 15, 19, 10, 21, 14, 11].getD j 24
theorem way_lt : ∀ k, k < 25 → wayX k < 5 ∧ wayY k < 5 := by decide
theorem way_next : ∀ k, k < 24 → wayX (k + 1) = wayY k ∧ wayY (k + 1) = (2 * wayX k + 3 * wayY k) % 5 := by decide
theorem way_offs : ∀ k, k < 24 → (k + 1) * (k + 2) / 2 % 64 = offs (wayX k + 5 * wayY k) := by decide
theorem way_at : ∀ k, k < 24 → wayT (wayX k + 5 * wayY k) = k := by decide
theorem way_of : ∀ j, j < 25 → wayT j < 24 → wayX (wayT j) + 5 * wayY (wayT j) = j := by decide
theorem way_end : ∀ j, j < 25 → ¬ wayT j < 24 → offs j = 0 := by decide
theorem way_tri : ∀ k, k < 24 → (k + 1) * (k + 2) ≤ 1000 := by decide

theorem info46 : (Tryd.prog.info? 92).map (·.size) = some 25 := by kernel_rfl
theorem way_step (b : Nat) (t : TypeId) (k : Nat) (w : World) (hk : k < 24) (h : Holds w b t (intsA 25 fun j => if wayT j < k then offs j else 0)) :
    Holds (w.setCell ⟨b, wayX k + 5 * wayY k, none⟩ (.int .i64 (((k + 1) * (k + 2) / 2 % 64 : Nat) : Int))) b t (intsA 25 fun j => if wayT j < k + 1 then offs j else 0) := by
  refine ((h.set _ _).congr (intsA_set 25 _ _ _)).congr (intsA_congr fun j hj => ?_)
  by_cases e : j = wayX k + 5 * wayY k
  · rw [if_pos e, e, way_at k hk, if_pos (by omega), way_offs k hk]
  · rw [if_neg e]
    by_cases c : wayT j < k
    · rw [if_pos c, if_pos (by omega)]
    · have : wayT j ≠ k := fun q => e (by have := way_of j hj (by omega); rw [q] at this; exact this.symm)
      rw [if_neg c, if_neg (by omega)]

set_option maxRecDepth 4000 in
set_option maxHeartbeats 1000000 in
theorem refOffsets_any (w : World) :
    Calls Tryd.prog 63 #[] w fun e w' => e = .returned (.agg (intsA 25 offs)) ∧ Below w.heap.size w w' := by
  go_enter Tryd.func63, Tryd.ntmps63
  go_wp2
  obtain ⟨n, hn⟩ : ∃ n, n = w.heap.size := ⟨_, rfl⟩
  rw [← hn]
  have HN : Hid (n = w.heap.size) := hn
  clear hn
  go_loopw [2, 3, 4] (fun sx sy st wr => ∃ k : Nat, k ≤ 24 ∧ st = .int .i64 k ∧ sx = .int .i64 (wayX k : Nat) ∧ sy = .int .i64 (wayY k : Nat) ∧ Below w.heap.size w wr ∧ (∃ f, Holds wr n 92 (intsA 25 f)) ∧ Holds wr (n + 1) 92 (intsA 25 fun j => if wayT j < k then offs j else 0)) (fun _ _ st _ => 24 - (intOf st).toNat)
  case atStart =>
    refine ⟨0, by omega, rfl, rfl, rfl, ((Below.refl _ _).alloc (Nat.le_refl _) _).alloc (by simp) _, ⟨fun _ => 0, ?_⟩, ?_⟩
    · rw [HN.out]; exact (Holds.new w 92 (intsA 25 fun _ => 0)).alloc _
    · have h := Holds.new (w.alloc (.cells (intsA 25 fun _ => 0) 92)) 92 (intsA 25 fun _ => 0)
      rw [World.size_alloc, ← HN.out] at h
      exact h.congr (intsA_congr fun j _ => by simp)
  case round =>
    obtain ⟨k, hk, rfl, rfl, rfl, hB, ⟨f, hf0⟩, hh⟩ := hrel
    by_cases hlt : k < 24
    · have hk1 : (k : Int) < 24 := by omega
      obtain ⟨hx5, hy5⟩ := way_lt k (by omega)
      obtain ⟨hnx, hny⟩ := way_next k hlt
      obtain ⟨X, hX⟩ : ∃ X, X = wayX k := ⟨_, rfl⟩
      obtain ⟨Y, hY⟩ : ∃ Y, Y = wayY k := ⟨_, rfl⟩
      obtain ⟨p, hp⟩ : ∃ p, p = (k + 1) * (k + 2) := ⟨_, rfl⟩
      have hp1 : ((k : Int) + 1) * ((k : Int) + 2) = (p : Int) := by rw [hp]; simp
      have hp2 : p ≤ 1000 := hp ▸ way_tri k hlt
      have hstep := way_step (n + 1) 92 k wr hlt hh
      rw [← hX, ← hY, ← hp] at hstep
      rw [← hX] at hx5 hny ⊢
      rw [← hY] at hy5 hnx hny ⊢
      have hfr := hh.frozen
      have hcell := hh.cell (X + 5 * Y)
      rw [intsA_get 25 _ _ (by omega)] at hcell
      have HS : Hid _ := hstep
      have HNX : Hid (wayX (k + 1) = Y) := hnx
      have HNY : Hid (wayY (k + 1) = (2 * X + 3 * Y) % 5) := hny
      have hX5 : (X : Int) < 5 := by omega
      have hY5 : (Y : Int) < 5 := by omega
      have hp3 : (p : Int) ≤ 1000 := by omega
      have HB : Hid (Below w.heap.size w wr) := hB
      clear hX hY hp hstep hnx hny hh hB
      go_wp2
      go_roundw
      case rel =>
        refine ⟨k + 1, by omega, rfl, by rw [HNX.out], ?_, Only.fresh HB.out ((Only.refl _ _).set _ _) (by have := HN.out; omega), ⟨f, Holds.other hf0 _ _ (by simp)⟩, HS.out⟩
        rw [HNY.out]; rfl
      case measure => simp [intOf]; omega
    · have hk1 : ¬ (k : Int) < 24 := by omega
      have hkk : k = 24 := by omega
      subst hkk
      have hh2 : Holds wr (n + 1) 92 (intsA 25 offs) := hh.congr (intsA_congr fun j hj => by
        by_cases c : wayT j < 24
        · rw [if_pos c]
        · rw [if_neg c, way_end j hj c])
      clear hh
      have hin : (Tryd.prog.info? 92).map (·.size) = some (intsA 25 offs).size := by rw [intsA_size]; exact info46
      have hzs : (intsA 25 f).size = (intsA 25 offs).size := by rw [intsA_size, intsA_size]
      have hon := intsA_one 25 offs
      generalize hcs : intsA 25 offs = cs at hin hzs hon hh2
      have HCS : Hid (intsA 25 offs = cs) := hcs
      clear hcs
      go_wp2_with (first
        | (refine wpList_loadH rfl 92 _ rfl (n + 1) rfl 92 cs _ hh2 Tryd.underlying92 rfl hin ?_)
        | (refine wpList_storeH rfl 92 _ _ rfl n cs rfl rfl 92 _ hf0 hin hzs hon ?_
           intro w1 h1 o1 z1))
      rw [← HCS.out] at h1 hin
      exact bodyPost_ret (results_cellH rfl _ _ n 92 (intsA 25 offs) _ rfl h1 Tryd.underlying92 rfl hin) rfl
        ⟨rfl, Only.fresh hB o1 (by have := HN.out; omega)⟩

end Go.Proofs.YtjdhdeffiigpbaaDoor.K
/-
  What the call of the document's constants does.
-/
namespace Go.Proofs.YtjdhdeffiigpbaaDoor.K
open Go.RowKit

theorem bits_i64_nat (a b : Nat) (ha : a < 512) (hb : b < 512) : bits .and .i64 (a : Int) (b : Int) = ((a &&& b : Nat) : Int) ∧ bits .xor .i64 (a : Int) (b : Int) = ((a ^^^ b : Nat) : Int) := by
  have h1 : (BitVec.ofInt 64 (a : Int)).toNat = a := by
    rw [BitVec.ofInt_natCast, BitVec.toNat_ofNat]; exact Nat.mod_eq_of_lt (by omega)
  have h2 : (BitVec.ofInt 64 (b : Int)).toNat = b := by
    rw [BitVec.ofInt_natCast, BitVec.toNat_ofNat]; exact Nat.mod_eq_of_lt (by omega)
  have hx : a ^^^ b < 2 ^ 9 := Nat.xor_lt_two_pow (by omega) (by omega)
  have hn : a &&& b < 2 ^ 9 := Nat.and_lt_two_pow _ (by omega)
  constructor
  · show IntKind.i64.wrap ((BitVec.ofInt 64 (a : Int) &&& BitVec.ofInt 64 (b : Int)).toNat : Int) = _
    rw [BitVec.toNat_and, h1, h2]
    simp [IntKind.wrap, IntKind.bits, IntKind.signed]
    omega
  · show IntKind.i64.wrap ((BitVec.ofInt 64 (a : Int) ^^^ BitVec.ofInt 64 (b : Int)).toNat : Int) = _
    rw [BitVec.toNat_xor, h1, h2]
    simp [IntKind.wrap, IntKind.bits, IntKind.signed]
    omega

/-- The register, one step on. -/
def regStep (r : Nat) : Nat := if 128 ≤ r then (r * 2) ^^^ 256 ^^^ 64 ^^^ 32 ^^^ 16 ^^^ 1 else r * 2
def reg : Nat → Nat
  | 0 => 1
  | t + 1 => regStep (reg t)
theorem regStep_lt : ∀ r, r < 256 → regStep r < 256 := by decide +kernel
theorem reg_lt : ∀ t, reg t < 256
  | 0 => by decide
  | t + 1 => regStep_lt _ (reg_lt t)
theorem reg_bit : ∀ r, r < 256 → ((r * 2) &&& 256 = if 128 ≤ r then 256 else 0) ∧ (r &&& 1 = r % 2) := by decide +kernel
theorem reg_xor : ∀ r, r < 256 → 128 ≤ r → (r * 2) ^^^ 256 < 512 ∧ (r * 2) ^^^ 256 ^^^ 64 < 512 ∧ (r * 2) ^^^ 256 ^^^ 64 ^^^ 32 < 512 ∧ (r * 2) ^^^ 256 ^^^ 64 ^^^ 32 ^^^ 16 < 512 := by decide +kernel

/-- The constants, as far as the register has gone. -/
def conAt : Nat → Nat → BitVec 64
  | 0, _ => 0
  | t + 1, i => if i = t / 7 then conAt t i ||| BitVec.ofNat 64 (reg t % 2) <<< (2 ^ (t % 7) - 1) else conAt t i
theorem conAt_end : ∀ i, i < 24 → conAt 168 i = rcs i := by decide +kernel

def lanes24 (s : Nat → BitVec 64) : Array Value := Array.ofFn (n := 24) fun i => .int .u64 (lane (s i.val))
theorem lanes24_size (s : Nat → BitVec 64) : (lanes24 s).size = 24 := by simp [lanes24]
theorem lanes24_get (s : Nat → BitVec 64) (i : Nat) (h : i < 24) : (lanes24 s)[i]? = some (.int .u64 (lane (s i))) := by simp [lanes24, h]
theorem lanes24_congr {s s' : Nat → BitVec 64} (h : ∀ i, i < 24 → s i = s' i) : lanes24 s = lanes24 s' := by
  unfold lanes24
  congr 1
  funext i
  rw [h i.val i.isLt]
theorem lanes24_set (s : Nat → BitVec 64) (i : Nat) (v : BitVec 64) : (lanes24 s).setIfInBounds i (.int .u64 (lane v)) = lanes24 (fun j => if j = i then v else s j) := by
  apply Array.ext
  · simp [lanes24]
  · intro j h1 h2
    by_cases e : j = i
    · subst e; simp [lanes24]
    · rw [Array.getElem_setIfInBounds_ne (by simpa using h1) (fun q => e q.symm)]
      simp [lanes24, e]
theorem lanes24_one (s : Nat → BitVec 64) : (lanes24 s).all (·.oneCell') = true := by
  refine Array.all_eq_true_iff_forall_mem.2 fun v hv => ?_
  obtain ⟨i, rfl⟩ := Array.mem_ofFn.1 hv
  rfl
theorem info24 : (Tryd.prog.info? 94).map (·.size) = some 24 := by kernel_rfl
theorem con_step (b : Nat) (t : TypeId) (k : Nat) (w : World) (h : Holds w b t (lanes24 (conAt k))) :
    Holds (w.setCell ⟨b, k / 7, none⟩ (.int .u64 (lane (conAt k (k / 7) ||| BitVec.ofNat 64 (reg k % 2) <<< (2 ^ (k % 7) - 1))))) b t (lanes24 (conAt (k + 1))) := by
  refine ((h.set _ _).congr (lanes24_set _ _ _)).congr (lanes24_congr fun j _ => ?_)
  by_cases e : j = k / 7
  · rw [if_pos e, conAt, if_pos e, e]
  · rw [if_neg e, conAt, if_neg e]
theorem lane_two (m : Nat) : ((m % 2 : Nat) : Int) = lane (BitVec.ofNat 64 (m % 2)) := by
  unfold lane
  rw [BitVec.toNat_ofNat, Nat.mod_eq_of_lt (show m % 2 < 2 ^ 64 by omega)]

theorem two_shl (r m : Nat) (hm : m < 64) : (r : Int) % 2 * 2 ^ m = lane (BitVec.ofNat 64 (r % 2) <<< m) := by
  have h := lane_shl (BitVec.ofNat 64 (r % 2)) m
  rw [← lane_two] at h
  rw [← h, IntKind.wrap_u64]
  have h2 : (2 : Int) ^ m ≤ 9223372036854775808 := by
    have : 2 ^ m ≤ 2 ^ 63 := Nat.pow_le_pow_right (by omega) (by omega)
    have h5 : ((2 ^ m : Nat) : Int) ≤ ((2 ^ 63 : Nat) : Int) := Int.ofNat_le.2 this
    simpa using h5
  have h3 : (0 : Int) < 2 ^ m := Int.pow_pos (by omega)
  rw [show (r : Int) % 2 = ((r % 2 : Nat) : Int) by omega]
  generalize (2 : Int) ^ m = z at h2 h3
  have h4 : r % 2 = 0 ∨ r % 2 = 1 := by omega
  rcases h4 with h4 | h4
  · rw [h4]; simp
  · rw [h4, show ((1 : Nat) : Int) = 1 from rfl, Int.one_mul]
    omega
theorem or_shl (v : BitVec 64) (r e : Nat) (he : 2 ^ e - 1 < 64) (X : Int) (hX : X = (r : Int) % 2 * 2 ^ (2 ^ e - 1)) : bits .or .u64 (lane v) X = lane (v ||| BitVec.ofNat 64 (r % 2) <<< (2 ^ e - 1)) := by
  rw [hX, two_shl r _ he, lane_or]
theorem reg_chain (r : Nat) (hr : r < 256) (h : 128 ≤ r) :
    bits .xor .i64 (bits .xor .i64 (bits .xor .i64 (bits .xor .i64 (bits .xor .i64 ((r : Int) * 2) 256) 64) 32) 16) 1 = ((regStep r : Nat) : Int) := by
  obtain ⟨h1, h2, h3, h4⟩ := reg_xor r hr h
  have e1 := (bits_i64_nat (r * 2) 256 (by omega) (by omega)).2
  have e2 := (bits_i64_nat _ 64 h1 (by omega)).2
  have e3 := (bits_i64_nat _ 32 h2 (by omega)).2
  have e4 := (bits_i64_nat _ 16 h3 (by omega)).2
  have e5 := (bits_i64_nat _ 1 h4 (by omega)).2
  have e0 : (r : Int) * 2 = ((r * 2 : Nat) : Int) := by omega
  unfold regStep
  rw [if_pos h, ← e5]
  show bits .xor .i64 (bits .xor .i64 (bits .xor .i64 (bits .xor .i64 (bits .xor .i64 ((r : Int) * 2) ((256 : Nat) : Int)) ((64 : Nat) : Int)) ((32 : Nat) : Int)) ((16 : Nat) : Int)) ((1 : Nat) : Int) = _
  rw [e0, e1, e2, e3, e4]

set_option maxRecDepth 4000 in
set_option maxHeartbeats 2000000 in
theorem refConstants_any (w : World) :
    Calls Tryd.prog 64 #[] w fun e w' => e = .returned (.agg (lanes24 rcs)) ∧ Below w.heap.size w w' := by
  go_enter Tryd.func64, Tryd.ntmps64
  go_wp2
  obtain ⟨n, hn⟩ : ∃ n, n = w.heap.size := ⟨_, rfl⟩
  rw [← hn]
  have HN : Hid (n = w.heap.size) := hn
  clear hn
  go_loopw [2, 3] (fun sr st wr => ∃ k : Nat, k ≤ 168 ∧ st = .int .i64 k ∧ sr = .int .i64 (reg k : Nat) ∧ Below w.heap.size w wr ∧ (∃ f, Holds wr n 94 (lanes24 f)) ∧ Holds wr (n + 1) 94 (lanes24 (conAt k))) (fun _ st _ => 168 - (intOf st).toNat)
  case atStart =>
    refine ⟨0, by omega, rfl, rfl, ((Below.refl _ _).alloc (Nat.le_refl _) _).alloc (by simp) _, ⟨fun _ => 0, ?_⟩, ?_⟩
    · rw [HN.out]; exact (Holds.new w 94 (lanes24 fun _ => 0)).alloc _
    · have h := Holds.new (w.alloc (.cells (lanes24 fun _ => 0) 94)) 94 (lanes24 fun _ => 0)
      rw [World.size_alloc, ← HN.out] at h
      exact h
  case round =>
    obtain ⟨k, hk, rfl, rfl, hB, ⟨f, hf0⟩, hh⟩ := hrel
    by_cases hlt : k < 168
    · have hk1 : (k : Int) < 168 := by omega
      have hstep := con_step (n + 1) 94 k wr hh
      have hrl := reg_lt k
      obtain ⟨hb1, hb2⟩ := reg_bit (reg k) hrl
      have hcell := hh.cell (k / 7)
      rw [lanes24_get _ _ (by omega)] at hcell
      have hfr := hh.frozen
      have hreg : reg (k + 1) = regStep (reg k) := rfl
      obtain ⟨r, hr⟩ : ∃ r, r = reg k := ⟨_, rfl⟩
      rw [← hr] at hstep hrl hb1 hb2 hreg ⊢
      have hand1 := (bits_i64_nat r 1 (by omega) (by omega)).1
      rw [hb2, show ((1 : Nat) : Int) = 1 from rfl] at hand1
      have hand2 := (bits_i64_nat (r * 2) 256 (by omega) (by omega)).1
      rw [hb1, show ((256 : Nat) : Int) = 256 from rfl, show ((r * 2 : Nat) : Int) = (r : Int) * 2 from by omega] at hand2
      obtain ⟨v, hv⟩ : ∃ v, v = conAt k (k / 7) := ⟨_, rfl⟩
      rw [← hv] at hcell hstep
      have HS : Hid _ := hstep
      have HG : Hid (reg (k + 1) = regStep r) := hreg
      have HB : Hid (Below w.heap.size w wr) := hB
      have hr0 : (r : Int) < 256 := by omega
      obtain ⟨e, he⟩ : ∃ e, e = k % 7 := ⟨_, rfl⟩
      have he7 : e < 7 := by omega
      have hem : (k : Int) % 7 = (e : Int) := by omega
      have HE : Hid (e = k % 7) := he
      have hr1 : (0 : Int) ≤ ((r % 2 : Nat) : Int) ∧ ((r % 2 : Nat) : Int) ≤ 1 := by omega
      clear hr hstep hreg hh hB hb1 hb2 hv hrl he
      have hcases : e = 0 ∨ e = 1 ∨ e = 2 ∨ e = 3 ∨ e = 4 ∨ e = 5 ∨ e = 6 := by omega
      by_cases h128 : 128 ≤ r
      · rw [if_pos h128] at hand2
        rcases hcases with rfl | rfl | rfl | rfl | rfl | rfl | rfl
        · go_wp2
          go_roundw
          case rel =>
            have q := or_shl v r 0 (by omega) ((r : Int) % 2) (by simp)
            have hs := HS.out
            rw [← HE.out] at hs
            rw [q]
            refine ⟨k + 1, by omega, rfl, ?_, Only.fresh HB.out ((Only.refl _ _).set _ _) (by have := HN.out; omega), ⟨f, Holds.other hf0 _ _ (by simp)⟩, hs⟩
            rw [HG.out, reg_chain r (by omega) h128]
          case measure => simp [intOf]; omega
        · go_wp2
          go_roundw
          case rel =>
            have q := or_shl v r 1 (by omega) ((r : Int) % 2 * 2) (by simp)
            have hs := HS.out
            rw [← HE.out] at hs
            rw [q]
            refine ⟨k + 1, by omega, rfl, ?_, Only.fresh HB.out ((Only.refl _ _).set _ _) (by have := HN.out; omega), ⟨f, Holds.other hf0 _ _ (by simp)⟩, hs⟩
            rw [HG.out, reg_chain r (by omega) h128]
          case measure => simp [intOf]; omega
        · go_wp2
          go_roundw
          case rel =>
            have q := or_shl v r 2 (by omega) ((r : Int) % 2 * 8) (by simp)
            have hs := HS.out
            rw [← HE.out] at hs
            rw [q]
            refine ⟨k + 1, by omega, rfl, ?_, Only.fresh HB.out ((Only.refl _ _).set _ _) (by have := HN.out; omega), ⟨f, Holds.other hf0 _ _ (by simp)⟩, hs⟩
            rw [HG.out, reg_chain r (by omega) h128]
          case measure => simp [intOf]; omega
        · go_wp2
          go_roundw
          case rel =>
            have q := or_shl v r 3 (by omega) ((r : Int) % 2 * 128) (by simp)
            have hs := HS.out
            rw [← HE.out] at hs
            rw [q]
            refine ⟨k + 1, by omega, rfl, ?_, Only.fresh HB.out ((Only.refl _ _).set _ _) (by have := HN.out; omega), ⟨f, Holds.other hf0 _ _ (by simp)⟩, hs⟩
            rw [HG.out, reg_chain r (by omega) h128]
          case measure => simp [intOf]; omega
        · go_wp2
          go_roundw
          case rel =>
            have q := or_shl v r 4 (by omega) ((r : Int) % 2 * 32768) (by simp)
            have hs := HS.out
            rw [← HE.out] at hs
            rw [q]
            refine ⟨k + 1, by omega, rfl, ?_, Only.fresh HB.out ((Only.refl _ _).set _ _) (by have := HN.out; omega), ⟨f, Holds.other hf0 _ _ (by simp)⟩, hs⟩
            rw [HG.out, reg_chain r (by omega) h128]
          case measure => simp [intOf]; omega
        · go_wp2
          go_roundw
          case rel =>
            have q := or_shl v r 5 (by omega) ((r : Int) % 2 * 2147483648) (by simp)
            have hs := HS.out
            rw [← HE.out] at hs
            rw [q]
            refine ⟨k + 1, by omega, rfl, ?_, Only.fresh HB.out ((Only.refl _ _).set _ _) (by have := HN.out; omega), ⟨f, Holds.other hf0 _ _ (by simp)⟩, hs⟩
            rw [HG.out, reg_chain r (by omega) h128]
          case measure => simp [intOf]; omega
        · go_wp2
          go_roundw
          case rel =>
            have q := or_shl v r 6 (by omega) ((r : Int) % 2 * 9223372036854775808) (by simp)
            have hs := HS.out
            rw [← HE.out] at hs
            rw [q]
            refine ⟨k + 1, by omega, rfl, ?_, Only.fresh HB.out ((Only.refl _ _).set _ _) (by have := HN.out; omega), ⟨f, Holds.other hf0 _ _ (by simp)⟩, hs⟩
            rw [HG.out, reg_chain r (by omega) h128]
          case measure => simp [intOf]; omega
      · rw [if_neg h128, show ((0 : Nat) : Int) = 0 from rfl] at hand2
        rcases hcases with rfl | rfl | rfl | rfl | rfl | rfl | rfl
        · go_wp2
          go_roundw
          case rel =>
            have q := or_shl v r 0 (by omega) ((r : Int) % 2) (by simp)
            have hs := HS.out
            rw [← HE.out] at hs
            rw [q]
            refine ⟨k + 1, by omega, rfl, ?_, Only.fresh HB.out ((Only.refl _ _).set _ _) (by have := HN.out; omega), ⟨f, Holds.other hf0 _ _ (by simp)⟩, hs⟩
            rw [HG.out]; unfold regStep; rw [if_neg h128]; rfl
          case measure => simp [intOf]; omega
        · go_wp2
          go_roundw
          case rel =>
            have q := or_shl v r 1 (by omega) ((r : Int) % 2 * 2) (by simp)
            have hs := HS.out
            rw [← HE.out] at hs
            rw [q]
            refine ⟨k + 1, by omega, rfl, ?_, Only.fresh HB.out ((Only.refl _ _).set _ _) (by have := HN.out; omega), ⟨f, Holds.other hf0 _ _ (by simp)⟩, hs⟩
            rw [HG.out]; unfold regStep; rw [if_neg h128]; rfl
          case measure => simp [intOf]; omega
        · go_wp2
          go_roundw
          case rel =>
            have q := or_shl v r 2 (by omega) ((r : Int) % 2 * 8) (by simp)
            have hs := HS.out
            rw [← HE.out] at hs
            rw [q]
            refine ⟨k + 1, by omega, rfl, ?_, Only.fresh HB.out ((Only.refl _ _).set _ _) (by have := HN.out; omega), ⟨f, Holds.other hf0 _ _ (by simp)⟩, hs⟩
            rw [HG.out]; unfold regStep; rw [if_neg h128]; rfl
          case measure => simp [intOf]; omega
        · go_wp2
          go_roundw
          case rel =>
            have q := or_shl v r 3 (by omega) ((r : Int) % 2 * 128) (by simp)
            have hs := HS.out
            rw [← HE.out] at hs
            rw [q]
            refine ⟨k + 1, by omega, rfl, ?_, Only.fresh HB.out ((Only.refl _ _).set _ _) (by have := HN.out; omega), ⟨f, Holds.other hf0 _ _ (by simp)⟩, hs⟩
            rw [HG.out]; unfold regStep; rw [if_neg h128]; rfl
          case measure => simp [intOf]; omega
        · go_wp2
          go_roundw
          case rel =>
            have q := or_shl v r 4 (by omega) ((r : Int) % 2 * 32768) (by simp)
            have hs := HS.out
            rw [← HE.out] at hs
            rw [q]
            refine ⟨k + 1, by omega, rfl, ?_, Only.fresh HB.out ((Only.refl _ _).set _ _) (by have := HN.out; omega), ⟨f, Holds.other hf0 _ _ (by simp)⟩, hs⟩
            rw [HG.out]; unfold regStep; rw [if_neg h128]; rfl
          case measure => simp [intOf]; omega
        · go_wp2
          go_roundw
          case rel =>
            have q := or_shl v r 5 (by omega) ((r : Int) % 2 * 2147483648) (by simp)
            have hs := HS.out
            rw [← HE.out] at hs
            rw [q]
            refine ⟨k + 1, by omega, rfl, ?_, Only.fresh HB.out ((Only.refl _ _).set _ _) (by have := HN.out; omega), ⟨f, Holds.other hf0 _ _ (by simp)⟩, hs⟩
            rw [HG.out]; unfold regStep; rw [if_neg h128]; rfl
          case measure => simp [intOf]; omega
        · go_wp2
          go_roundw
          case rel =>
            have q := or_shl v r 6 (by omega) ((r : Int) % 2 * 9223372036854775808) (by simp)
            have hs := HS.out
            rw [← HE.out] at hs
            rw [q]
            refine ⟨k + 1, by omega, rfl, ?_, Only.fresh HB.out ((Only.refl _ _).set _ _) (by have := HN.out; omega), ⟨f, Holds.other hf0 _ _ (by simp)⟩, hs⟩
            rw [HG.out]; unfold regStep; rw [if_neg h128]; rfl
          case measure => simp [intOf]; omega
    · have hk1 : ¬ (k : Int) < 168 := by omega
      have hkk : k = 168 := by omega
      subst hkk
      have hh2 : Holds wr (n + 1) 94 (lanes24 rcs) := hh.congr (lanes24_congr conAt_end)
      clear hh
      have hin : (Tryd.prog.info? 94).map (·.size) = some (lanes24 rcs).size := by rw [lanes24_size]; exact info24
      have hzs : (lanes24 f).size = (lanes24 rcs).size := by rw [lanes24_size, lanes24_size]
      have hon := lanes24_one rcs
      generalize hcs : lanes24 rcs = cs at hin hzs hon hh2
      have HCS : Hid (lanes24 rcs = cs) := hcs
      clear hcs
      go_wp2_with (first
        | (refine wpList_loadH rfl 94 _ rfl (n + 1) rfl 94 cs _ hh2 Tryd.underlying94 rfl hin ?_)
        | (refine wpList_storeH rfl 94 _ _ rfl n cs rfl rfl 94 _ hf0 hin hzs hon ?_
           intro w1 h1 o1 z1))
      rw [← HCS.out] at h1 hin
      exact bodyPost_ret (results_cellH rfl _ _ n 94 (lanes24 rcs) _ rfl h1 Tryd.underlying94 rfl hin) rfl
        ⟨rfl, Only.fresh hB o1 (by have := HN.out; omega)⟩

end Go.Proofs.YtjdhdeffiigpbaaDoor.K
/-
  Lanes put in place column by column, as the document's permutation does. Plain; nothing of the program.
-/
namespace Go.Proofs.YtjdhdeffiigpbaaDoor.K
open Go Go.RowKit

/-- Lane i is done when x columns and y lanes of the next one are. -/
def doneB (x y i : Nat) : Bool := decide (i % 5 < x) || (decide (i % 5 = x) && decide (i / 5 < y))
theorem done_none (i : Nat) : doneB 0 0 i = false := by simp [doneB]
theorem done_col (x i : Nat) (hi : i < 25) : doneB x 5 i = doneB (x + 1) 0 i := by
  have : i / 5 < 5 := by omega
  unfold doneB
  rw [Bool.eq_iff_iff]
  simp [this]
  omega
theorem done_all (i : Nat) : doneB 5 0 i = true := by
  have : i % 5 < 5 := Nat.mod_lt _ (by omega)
  simp [doneB, this]
theorem done_not (x y : Nat) (hx : x < 5) : doneB x y (x + 5 * y) = false := by
  have h1 : (x + 5 * y) % 5 = x := by omega
  have h2 : (x + 5 * y) / 5 = y := by omega
  simp [doneB, h1, h2]
theorem done_this (x y : Nat) (hx : x < 5) : doneB x (y + 1) (x + 5 * y) = true := by
  have h1 : (x + 5 * y) % 5 = x := by omega
  have h2 : (x + 5 * y) / 5 = y := by omega
  simp [doneB, h1, h2]
theorem done_other (x y i : Nat) (h : i ≠ x + 5 * y) : doneB x (y + 1) i = doneB x y i := by
  have hd := Nat.div_add_mod i 5
  unfold doneB
  rw [Bool.eq_iff_iff]
  simp
  constructor
  · rintro (q | ⟨q1, q2⟩)
    · exact .inl q
    · exact .inr ⟨q1, by omega⟩
  · rintro (q | ⟨q1, q2⟩)
    · exact .inl q
    · exact .inr ⟨q1, by omega⟩

theorem grid_step (F G : Nat → BitVec 64) (b : Nat) (t : TypeId) (w : World) (x y : Nat) (hx : x < 5) (hy : y < 5) (h : Holds w b t (lanesA (fun i => if doneB x y i then F i else G i))) (v : BitVec 64) (hv : v = F (x + 5 * y)) :
    Holds (w.setCell ⟨b, x + 5 * y, none⟩ (.int .u64 (lane v))) b t (lanesA (fun i => if doneB x (y + 1) i then F i else G i)) := by
  refine (h.laneSet (x + 5 * y) v (by omega)).congr (lanesA_congr fun i _ => ?_)
  by_cases e : i = x + 5 * y
  · subst e; rw [if_pos rfl, done_this x y hx, hv]; rfl
  · rw [if_neg e, done_other x y i e]

theorem tgt_xy : ∀ x, x < 5 → ∀ y, y < 5 → y + 5 * ((2 * x + 3 * y) % 5) = tgts (x + 5 * y) := by decide
theorem pi_step (s : Nat → BitVec 64) (G : Nat → BitVec 64) (b : Nat) (t : TypeId) (w : World) (x y : Nat) (hx : x < 5) (hy : y < 5) (h : Holds w b t (lanesA (fun j => if doneB x y (srcs j) then rhopi s j else G j))) :
    Holds (w.setCell ⟨b, y + 5 * ((2 * x + 3 * y) % 5), none⟩ (.int .u64 (lane (rotl (s (x + 5 * y)) (offs (x + 5 * y)))))) b t (lanesA (fun j => if doneB x (y + 1) (srcs j) then rhopi s j else G j)) := by
  rw [tgt_xy x hx y hy]
  have hi : x + 5 * y < 25 := by omega
  refine (h.laneSet (tgts (x + 5 * y)) _ (tgts_lt _ hi)).congr (lanesA_congr fun j hj => ?_)
  by_cases e : j = tgts (x + 5 * y)
  · subst e
    rw [if_pos rfl, srcs_tgts _ hi, done_this x y hx, if_pos rfl]
    unfold rhopi
    rw [srcs_tgts _ hi]
  · have h1 : srcs j ≠ x + 5 * y := fun q => e (by rw [← q, tgts_srcs j hj])
    rw [if_neg e, done_other x y _ h1]

theorem chi_xy (s : Nat → BitVec 64) (x y : Nat) (hx : x < 5) : s (x + 5 * y) ^^^ (~~~ s ((x + 1) % 5 + 5 * y) &&& s ((x + 2) % 5 + 5 * y)) = chi s (x + 5 * y) := by
  unfold chi
  rw [show 5 * ((x + 5 * y) / 5) + (x + 5 * y + 1) % 5 = (x + 1) % 5 + 5 * y by omega, show 5 * ((x + 5 * y) / 5) + (x + 5 * y + 2) % 5 = (x + 2) % 5 + 5 * y by omega]
theorem theta_xy (s : Nat → BitVec 64) (x y : Nat) (hx : x < 5) : s (x + 5 * y) ^^^ dif s x = theta s (x + 5 * y) := by
  unfold theta
  rw [show (x + 5 * y) % 5 = x by omega]

/-- Five lanes as cells. -/
def lanes5 (s : Nat → BitVec 64) : Array Value := Array.ofFn (n := 5) fun i => .int .u64 (lane (s i.val))
theorem lanes5_get (s : Nat → BitVec 64) (i : Nat) (h : i < 5) : (lanes5 s)[i]? = some (.int .u64 (lane (s i))) := by simp [lanes5, h]
theorem lanes5_congr {s s' : Nat → BitVec 64} (h : ∀ i, i < 5 → s i = s' i) : lanes5 s = lanes5 s' := by
  unfold lanes5
  congr 1
  funext i
  rw [h i.val i.isLt]
theorem lanes5_set (s : Nat → BitVec 64) (i : Nat) (v : BitVec 64) : (lanes5 s).setIfInBounds i (.int .u64 (lane v)) = lanes5 (fun j => if j = i then v else s j) := by
  apply Array.ext
  · simp [lanes5]
  · intro j h1 h2
    by_cases e : j = i
    · subst e; simp [lanes5]
    · rw [Array.getElem_setIfInBounds_ne (by simpa using h1) (fun q => e q.symm)]
      simp [lanes5, e]
theorem par_step (S : Nat → BitVec 64) (b : Nat) (t : TypeId) (w : World) (x : Nat) (h : Holds w b t (lanes5 (fun i => if i < x then par S i else 0))) :
    Holds (w.setCell ⟨b, x, none⟩ (.int .u64 (lane (par S x)))) b t (lanes5 (fun i => if i < x + 1 then par S i else 0)) := by
  refine ((h.set _ _).congr (lanes5_set _ _ _)).congr (lanes5_congr fun i _ => ?_)
  by_cases e : i = x
  · subst e; simp
  · by_cases c : i < x
    · simp [e, c, show i < x + 1 by omega]
    · simp [e, c, show ¬ i < x + 1 by omega]

end Go.Proofs.YtjdhdeffiigpbaaDoor.K
/-
  A region that draws its order: operations that turn nothing, walked as quiet ones, then the rest in its own order.
-/
namespace Go.Proofs.YtjdhdeffiigpbaaDoor.K
open Go.RowKit
section
variable {P : Program} {ops : Array Oper} {W : World} {Q : Act → Prop}
theorem wpStill_of_quiet : ∀ (l : List Oper) (a : Act), wpQuiet P ops (fun w' => w' = W) Q l a → wpStill P ops W Q l a
  | [], _, h => h
  | o :: rest, a, h => by
    unfold wpQuiet at h
    unfold wpStill
    split
    · rename_i hw
      rw [if_pos hw] at h
      obtain ⟨v, h1, h2⟩ := h
      have h3 := h1 W rfl
      unfold Oper.quietAt at h3
      unfold Oper.still
      generalize (execOp a.eval o).run P W = r at *
      cases r with
      | ok n w' =>
        cases n <;> simp only [Oper.quietUpon] at h3 <;> simp only [Oper.stillUpon]
        case value u => obtain ⟨e1, e2⟩ := h3; subst e2; exact ⟨e1, wpStill_of_quiet rest _ h2⟩
        case skip => obtain ⟨e1, e2⟩ := h3; subst e2; exact ⟨e1, wpStill_of_quiet rest _ h2⟩
        case enter f args => obtain ⟨e1, hc⟩ := h3; exact ⟨e1, v, hc, wpStill_of_quiet rest _ h2⟩
      | halt x w' => simp only [Oper.quietUpon] at h3
    · rename_i hw
      rw [if_neg hw] at h
      exact wpStill_of_quiet rest _ h
theorem wp_region_qtail {id : Nat} {Q : Exit → Act → World → Prop} {a : Act} {w : World} {l : List Oper} (n : Nat) (hm : P.follows .mixedOrders = true) (hB : Region.lexTailB .any l.toArray n = true)
    (h : wpQuiet P l.toArray (fun w' => w' = w.drew) (fun a' => wpList P l.toArray Q (l.drop n) a' w.drew) (l.take n) a) : (Code.region id l.toArray true).wp P Q a w :=
  wp_region_tail n hm hB (wpStill_of_quiet _ _ h)
end
end Go.Proofs.YtjdhdeffiigpbaaDoor.K
/-
  Regions that draw their order and make memory, but turn nothing that was there: laws over the class of worlds 'nothing below has turned'.
-/
namespace Go.Proofs.YtjdhdeffiigpbaaDoor.K
open Go.RowKit
section
variable {P : Program} {ops : Array Oper} {rest : List Oper} {op : Oper} {a : Act} {C : World → Prop} {Q : Act → Prop}

theorem wpQ_load (hw : Region.wanted op (yielded ops a.tmps) = true) (ty : TypeId) (x : Operand) (ho : op.op = .load ty x)
    (b : Nat) (hx : a.eval x = .pointer (some ⟨b, 0, none⟩)) (t : TypeId) (cs : Array Value) (d : TypeDesc) (hh : ∀ w, C w → Holds w b t cs)
    (hu : P.underlying ty = some d) (hd : d.isRow = true) (hi : (P.info? ty).map (·.size) = some cs.size)
    (h : wpQuiet P ops C Q rest (a.put op.dst (.agg cs))) : wpQuiet P ops C Q (op :: rest) a :=
  wpQuiet_step fun _ hK => by
    rw [if_pos hw]
    refine ⟨.agg cs, fun w hw => ?_, hK _ h⟩
    unfold Oper.quietAt execOp
    simp only [ho, hx, Instr.loadAt, Instr.sureAddr, Sem.run_bind, Sem.run_pure, Result.andThen_ok, run_loadVar_row w b t ty cs (0, 0) d (hh w hw) hu (by cases d <;> simp_all) hi]
    exact ⟨rfl, rfl⟩
theorem wpQ_call (hw : Region.wanted op (yielded ops a.tmps) = true) (f : FuncId)
    (vs : Array Value) (hf : ∀ w, (execOp a.eval op).run P w = .ok (.enter f vs) w) (v : Value) (hc : ∀ w, C w → Calls P f vs w fun e w' => e = .returned v ∧ C w')
    (h : wpQuiet P ops C Q rest (a.put op.dst v)) : wpQuiet P ops C Q (op :: rest) a :=
  wpQuiet_step fun _ hK => by
    rw [if_pos hw]
    refine ⟨v, fun w hw => ?_, hK _ h⟩
    unfold Oper.quietAt
    rw [hf w]
    exact ⟨rfl, hc w hw⟩
theorem wpQ_eql (hw : Region.wanted op (yielded ops a.tmps) = true) (t t' : TypeId) (x y : Operand) (ho : op.op = .binOp .eql t x y t')
    (xs ys : Array Value) (hx : a.eval x = .agg xs) (hy : a.eval y = .agg ys) (r : Bool) (hg : P.eqGuardType P.depth t = false) (he : ∀ w, (Op.equalIn 10000 t (.agg xs) (.agg ys)).run P w = .ok r w)
    (h : wpQuiet P ops C Q rest (a.put op.dst (.bool r))) : wpQuiet P ops C Q (op :: rest) a :=
  wpQuiet_step fun _ hK => by
    rw [if_pos hw]
    refine ⟨.bool r, fun w _ => ?_, hK _ h⟩
    unfold Oper.quietAt execOp
    have h1 := run_eqGuard_agg (P := P) w .eql t x y xs ys hg
    have h2 := run_eql_struct (P := P) w t xs ys
    rw [he w] at h2
    simp only [ho, hx, hy, Sem.run_bind, Sem.run_pure, h1, h2, Result.andThen_ok]
    exact ⟨rfl, rfl⟩
theorem wpQ_val (hw : Region.wanted op (yielded ops a.tmps) = true) (v : Value) (hv : ∀ w, (execOp a.eval op).run P w = .ok (.value v) w)
    (h : wpQuiet P ops C Q rest (a.put op.dst v)) : wpQuiet P ops C Q (op :: rest) a :=
  wpQuiet_step fun _ hK => by
    rw [if_pos hw]
    refine ⟨v, fun w _ => ?_, hK _ h⟩
    unfold Oper.quietAt
    rw [hv w]
    exact ⟨rfl, rfl⟩
theorem wp_region_class {id : Nat} {Q : Exit → Act → World → Prop} {a : Act} {w : World} {l : List Oper} (C : World → Prop) (hm : P.follows .mixedOrders = true) (hB : Region.lexB .any l.toArray = true) (h0 : C w.drew)
    (h : wpQuiet P l.toArray C (fun a' => ∀ w', C w' → Q .normal a' w') l a) : (Code.region id l.toArray true).wp P Q a w :=
  wp_region_quiet (C := C) hm hB h0 (by simpa using h)
end
end Go.Proofs.YtjdhdeffiigpbaaDoor.K
/-
  What the call of the document's Permute does.
-/
namespace Go.Proofs.YtjdhdeffiigpbaaDoor.K
open Go.RowKit

theorem mixedP : Tryd.prog.follows .mixedOrders = true := by kernel_rfl
theorem refRot_one (x : BitVec 64) (w : World) :
    Calls Tryd.prog 65 #[.int .u64 (lane x), .int .i64 1] w fun e w' => e = .returned (.int .u64 (lane (rotl x 1))) ∧ w' = w :=
  refRot_any x 1 w (by omega)

set_option maxRecDepth 8000 in
set_option maxHeartbeats 4000000 in
theorem refPermute_any (s : Nat → BitVec 64) (w : World) :
    Calls Tryd.prog 46 #[.agg (lanesA s)] w fun e w' => e = .returned (.agg (lanesA (perm s))) ∧ Below w.heap.size w w' := by
  go_enter Tryd.func46, Tryd.ntmps46
  go_wp2_with fail
  obtain ⟨w0, hw0⟩ : ∃ w0, w0 = (w.alloc (.cells (lanesA s) 71)).alloc (.cells (lanesA fun _ => 0) 71) := ⟨_, rfl⟩
  obtain ⟨n, hn⟩ : ∃ n, n = w.heap.size := ⟨_, rfl⟩
  have hB0 : Below w.heap.size w w0 := by rw [hw0]; exact ((Below.refl _ _).alloc (Nat.le_refl _) _).alloc (by simp) _
  have ga0 : Holds w0 n 71 (lanesA s) := by rw [hw0, hn]; exact (Holds.new w 71 (lanesA s)).alloc _
  have gr0 : Holds w0 (n + 1) 71 (lanesA fun _ => 0) := by
    have h := Holds.new (w.alloc (.cells (lanesA s) 71)) 71 (lanesA fun _ => 0)
    rw [World.size_alloc, ← hn, ← hw0] at h
    exact h
  change Calls _ _ _ ((w.alloc (.cells (lanesA s) 71)).alloc (.cells (lanesA fun _ => 0) 71)) _
  rw [← hw0, ← hn]
  have HN : Hid (n = w.heap.size) := hn
  clear hw0 hn
  refine (refOffsets_any w0).mono ?_
  rintro e w1 ⟨rfl, hB1⟩
  have ga1 := Below.holds hB1 ga0
  have gr1 := Below.holds hB1 gr0
  have hBB1 := hB0.trans (hB1.mono hB0.size)
  have hin : (Tryd.prog.info? 92).map (·.size) = some (intsA 25 offs).size := by rw [intsA_size]; exact info46
  have hzs : (intsA 25 fun _ => 0).size = (intsA 25 offs).size := by rw [intsA_size, intsA_size]
  have hon := intsA_one 25 offs
  generalize hcs : intsA 25 offs = cs at hin hzs hon ⊢
  have HCS : Hid (intsA 25 offs = cs) := hcs
  clear hcs hB1 ga0 gr0 hB0
  dsimp only
  go_wp2_with (first
    | (refine wpList_storeH rfl 92 _ _ rfl w1.heap.size cs rfl rfl 92 (intsA 25 fun _ => 0) (Holds.new _ _ _) hin hzs hon ?_
       intro w2 go2 oo2 zz2)
    | fail)
  have hB2 : Below w1.heap.size w1 w2 := Only.fresh ((Below.refl _ _).alloc (Nat.le_refl _) _) oo2 (Nat.le_refl _)
  have ga2 := Below.holds hB2 ga1
  have gr2 := Below.holds hB2 gr1
  have hBB2 := hBB1.trans (hB2.mono hBB1.size)
  obtain ⟨p, hp⟩ : ∃ p, p = w1.heap.size := ⟨_, rfl⟩
  have hnp : n + 1 < p := by rw [hp]; exact gr1.lt
  rw [← hp] at go2 ⊢
  rw [← HCS.out] at go2
  clear hp hB2 zz2 oo2 ga1 gr1 hBB1 hin hzs hon HCS
  refine (refConstants_any w2).mono ?_
  rintro e w3 ⟨rfl, hB3⟩
  have ga3 := Below.holds hB3 ga2
  have gr3 := Below.holds hB3 gr2
  have go3 := Below.holds hB3 go2
  have hBB3 := hBB2.trans (hB3.mono hBB2.size)
  have hin : (Tryd.prog.info? 94).map (·.size) = some (lanes24 rcs).size := by rw [lanes24_size]; exact info24
  have hzs : (lanes24 fun _ => 0).size = (lanes24 rcs).size := by rw [lanes24_size, lanes24_size]
  have hon := lanes24_one rcs
  generalize hcs : lanes24 rcs = cs2 at hin hzs hon ⊢
  have HCS : Hid (lanes24 rcs = cs2) := hcs
  clear hcs hB3 ga2 gr2 go2 hBB2
  dsimp only
  go_wp2_with (first
    | (refine wpList_storeH rfl 94 _ _ rfl w3.heap.size cs2 rfl rfl 94 (lanes24 fun _ => 0) (Holds.new _ _ _) hin hzs hon ?_
       intro w4 gc4 oo4 zz4)
    | fail)
  have hB4 : Below w3.heap.size w3 w4 := Only.fresh ((Below.refl _ _).alloc (Nat.le_refl _) _) oo4 (Nat.le_refl _)
  have ga4 := Below.holds hB4 ga3
  have gr4 := Below.holds hB4 gr3
  have go4 := Below.holds hB4 go3
  have hBB4 := hBB3.trans (hB4.mono hBB3.size)
  obtain ⟨q, hq⟩ : ∃ q, q = w3.heap.size := ⟨_, rfl⟩
  have hpq : p < q := by rw [hq]; exact go3.lt
  rw [← hq] at gc4 ⊢
  rw [← HCS.out] at gc4
  clear hq hB4 zz4 oo4 ga3 gr3 go3 hBB3 hin hzs hon HCS
  go_loopw [5] (fun y wr => ∃ k : Nat, k ≤ 24 ∧ y = .int .i64 k ∧ Below w.heap.size w wr ∧ Holds wr n 71 (lanesA (rounds k s)) ∧ (∃ g, Holds wr (n + 1) 71 (lanesA g)) ∧ Holds wr p 92 (intsA 25 offs) ∧ Holds wr q 94 (lanes24 rcs)) (fun y _ => 24 - (intOf y).toNat)
  case atStart => exact ⟨0, by omega, rfl, hBB4, ga4, ⟨_, gr4⟩, go4, gc4⟩
  case round =>
    clear hBB4 ga4 gr4 go4 gc4
    obtain ⟨k, hk, rfl, hB, ha, ⟨g, hg⟩, ho, hc⟩ := hrel
    by_cases hlt : k < 24
    · have hk1 : (k : Int) < 24 := by omega
      obtain ⟨S, hS⟩ : ∃ S, S = rounds k s := ⟨_, rfl⟩
      rw [← hS] at ha
      have HS : Hid (S = rounds k s) := hS
      have hnl := ha.lt
      have hpl := ho.lt
      have hql := hc.lt
      clear hS
      go_wp2_with fail
      obtain ⟨m, hm⟩ : ∃ m, m = wr.heap.size := ⟨_, rfl⟩
      obtain ⟨wa, hwa⟩ : ∃ wa, wa = wr.alloc (.cells (lanes5 fun _ => 0) 96) := ⟨_, rfl⟩
      have hBa : Below wr.heap.size wr wa := by rw [hwa]; exact (Below.refl _ _).alloc (Nat.le_refl _) _
      have gm : Holds wa m 96 (lanes5 fun _ => 0) := by rw [hwa, hm]; exact Holds.new _ _ _
      have gaA := Below.holds hBa ha
      have grA := Below.holds hBa hg
      have goA := Below.holds hBa ho
      have gcA := Below.holds hBa hc
      have hBA := hB.trans (hBa.mono hB.size)
      change Code.wp _ _ _ _ (wr.alloc (.cells (lanes5 fun _ => 0) 96))
      rw [← hwa, ← hm]
      rw [← hm] at hnl hpl hql
      have hnw : w.heap.size ≤ n := Nat.le_of_eq HN.out.symm
      clear hwa hm hBa ha hg ho hc hB
      go_loopw [7] (fun y w2 => ∃ x : Nat, x ≤ 5 ∧ y = .int .i64 x ∧ Only m wa w2 ∧ Holds w2 m 96 (lanes5 fun i => if i < x then par S i else 0)) (fun y _ => 5 - (intOf y).toNat)
      case atStart => exact ⟨0, by omega, rfl, Only.refl _ _, gm.congr (lanes5_congr fun i _ => by simp)⟩
      case round =>
        clear gm
        obtain ⟨x, hx, rfl, o2, hm2⟩ := hrel
        by_cases hx5 : x < 5
        · have hxi : (x : Int) < 5 := by omega
          have hA2 := o2.holds gaA (by omega)
          have c0 := hA2.laneAt x (by omega)
          have c1 := hA2.laneAt (x + 5) (by omega)
          have c2 := hA2.laneAt (x + 10) (by omega)
          have c3 := hA2.laneAt (x + 15) (by omega)
          have c4 := hA2.laneAt (x + 20) (by omega)
          have cm := hm2.cell x
          rw [lanes5_get _ _ hx5] at cm
          have hf := hm2.frozen
          have hmn : m ≠ n := by omega
          have bx0 : (0 : Int) ≤ x := by omega
          have bx1 : (x : Int) + 5 < 25 := by omega
          have bx2 : (x : Int) + 10 < 25 := by omega
          have bx3 : (x : Int) + 15 < 25 := by omega
          have bx4 : (x : Int) + 20 < 25 := by omega
          have HM2 : Hid _ := hm2
          clear hA2 hm2
          go_wp2
          refine wp_region_qtail 25 mixedP (by kernel_rfl) ?_
          simp only [List.take_succ_cons, List.take_zero, List.drop_succ_cons, List.drop_zero]
          repeat (go_big_quiet_step (fail))
          refine wpQuiet_nil ?_
          go_wp2
          go_roundw
          case rel =>
            simp only [lane_xor]
            exact ⟨x + 1, by omega, rfl, (o2.set _ _).drew, Holds.drew (par_step S m 96 _ x HM2.out)⟩
          case measure => simp [intOf]; omega
        · have hxi : ¬ (x : Int) < 5 := by omega
          have hxx : x = 5 := by omega
          subst hxx
          go_wp2_with fail
          have hm3 : Holds wr m 96 (lanes5 (par S)) := hm2.congr (lanes5_congr fun i hi => by simp [hi])
          have ga3 := o2.holds gaA (by omega)
          have gr3 := o2.holds grA (by omega)
          have go3 := o2.holds goA (by omega)
          have gc3 := o2.holds gcA (by omega)
          have hB3 : Below w.heap.size w wr := Only.fresh hBA o2 (by omega)
          obtain ⟨wb, hwb⟩ : ∃ wb, wb = wr := ⟨_, rfl⟩
          rw [← hwb] at hm3 ga3 gr3 go3 gc3 hB3 ⊢
          clear hwb hm2 o2 gaA grA goA gcA hBA hx
          go_loopw [8] (fun y w3 => ∃ x : Nat, x ≤ 5 ∧ y = .int .i64 x ∧ Only n wb w3 ∧ Holds w3 n 71 (lanesA fun i => if doneB x 0 i then theta S i else S i)) (fun y _ => 5 - (intOf y).toNat)
          case atStart => exact ⟨0, by omega, rfl, Only.refl _ _, ga3.congr (lanesA_congr fun i _ => by simp [done_none])⟩
          case round =>
            clear ga3
            obtain ⟨x, hx, rfl, o4, h4⟩ := hrel
            by_cases hx5 : x < 5
            · have hxi : (x : Int) < 5 := by omega
              have hm4 := o4.holds hm3 (by omega)
              obtain ⟨x4, hx4⟩ : ∃ x4, x4 = (x + 4) % 5 := ⟨_, rfl⟩
              obtain ⟨x1, hx1⟩ : ∃ x1, x1 = (x + 1) % 5 := ⟨_, rfl⟩
              have e4 : ((x : Int) + 4) % 5 = (x4 : Int) := by omega
              have e1 : ((x : Int) + 1) % 5 = (x1 : Int) := by omega
              have l4 : (x4 : Int) < 5 := by omega
              have l1 : (x1 : Int) < 5 := by omega
              have c4 := hm4.cell x4
              rw [lanes5_get _ _ (by omega)] at c4
              have c1 := hm4.cell x1
              rw [lanes5_get _ _ (by omega)] at c1
              have HD : Hid (par S x4 ^^^ rotl (par S x1) 1 = dif S x) := by rw [hx4, hx1]; rfl
              clear hx4 hx1 hm4
              go_wp2_with fail
              go_quiet ((go_at_call 65; exact Calls.quiet_of_same (refRot_one _ _)))
              go_wp2_with fail
              rw [lane_xor, HD.out]
              clear c4 c1 e4 e1 l4 l1 HD
              have o4q := o4.drewN nq
              have h4q := h4.drewN nq
              clear o4 h4
              go_loopw [10] (fun y w4 => ∃ yy : Nat, yy ≤ 5 ∧ y = .int .i64 yy ∧ Only n wb w4 ∧ Holds w4 n 71 (lanesA fun i => if doneB x yy i then theta S i else S i)) (fun y _ => 5 - (intOf y).toNat)
              case atStart => exact ⟨0, by omega, rfl, o4q, h4q⟩
              case round =>
                clear o4q h4q
                obtain ⟨y, hy, rfl, o5, h5⟩ := hrel
                by_cases hy5 : y < 5
                · have hyi : (y : Int) < 5 := by omega
                  have cc := h5.laneAt (x + 5 * y) (by omega)
                  rw [done_not x y hx5, if_neg (by simp)] at cc
                  have hf := h5.frozen
                  have H5 : Hid (Holds wr n 71 (lanesA fun i => if doneB x y i then theta S i else S i)) := h5
                  clear h5
                  go_wp2
                  go_roundw
                  case rel =>
                    rw [lane_xor]
                    exact ⟨y + 1, by omega, rfl, o5.set _ _, grid_step (theta S) S n 71 _ x y hx5 hy5 H5.out _ (theta_xy S x y hx5)⟩
                  case measure => simp [intOf]; omega
                · have hyi : ¬ (y : Int) < 5 := by omega
                  have hyy : y = 5 := by omega
                  subst hyy
                  have h6 : Holds wr n 71 (lanesA fun i => if doneB (x + 1) 0 i then theta S i else S i) := h5.congr (lanesA_congr fun i hi => by rw [done_col x i hi])
                  clear h5 hy
                  go_wp2
                  go_roundw
                  case rel => exact ⟨x + 1, by omega, rfl, o5, h6⟩
                  case measure => simp [intOf]; omega
            · have hxi : ¬ (x : Int) < 5 := by omega
              have hxx : x = 5 := by omega
              subst hxx
              obtain ⟨T, hT⟩ : ∃ T, T = theta S := ⟨_, rfl⟩
              have gt : Holds wr n 71 (lanesA T) := h4.congr (lanesA_congr fun i _ => by rw [done_all, hT]; rfl)
              have HT : Hid (T = theta S) := hT
              have gr4 := o4.holds gr3 (by omega)
              have go4 := o4.holds go3 (by omega)
              have gc4 := o4.holds gc3 (by omega)
              have hB4 : Below w.heap.size w wr := Only.fresh hB3 o4 (by omega)
              clear hT h4 o4 gr3 go3 gc3 hB3 hm3 hx
              go_wp2_with fail
              obtain ⟨b, hb⟩ : ∃ b, b = wr.heap.size := ⟨_, rfl⟩
              obtain ⟨wd, hwd⟩ : ∃ wd, wd = wr.alloc (.cells (lanesA fun _ => 0) 71) := ⟨_, rfl⟩
              have hBd : Below wr.heap.size wr wd := by rw [hwd]; exact (Below.refl _ _).alloc (Nat.le_refl _) _
              have gb : Holds wd b 71 (lanesA fun _ => 0) := by rw [hwd, hb]; exact Holds.new _ _ _
              have gaD := Below.holds hBd gt
              have grD := Below.holds hBd gr4
              have goD := Below.holds hBd go4
              have gcD := Below.holds hBd gc4
              have hBD := hB4.trans (hBd.mono hB4.size)
              have hnb : n < b := by rw [hb]; exact gt.lt
              have hrb : n + 1 < b := by rw [hb]; exact gr4.lt
              have hpb : p < b := by rw [hb]; exact go4.lt
              have hqb : q < b := by rw [hb]; exact gc4.lt
              change Code.wp _ _ _ _ (wr.alloc (.cells (lanesA fun _ => 0) 71))
              rw [← hwd, ← hb]
              clear hwd hb hBd gt gr4 go4 gc4 hB4 hnl hpl hql
              go_loopw [12] (fun y w5 => ∃ x : Nat, x ≤ 5 ∧ y = .int .i64 x ∧ Only b wd w5 ∧ Holds w5 b 71 (lanesA fun j => if doneB x 0 (srcs j) then rhopi T j else 0)) (fun y _ => 5 - (intOf y).toNat)
              case atStart => exact ⟨0, by omega, rfl, Only.refl _ _, gb.congr (lanesA_congr fun i _ => by simp [done_none])⟩
              case round =>
                clear gb
                obtain ⟨x, hx, rfl, o5, h5⟩ := hrel
                by_cases hx5 : x < 5
                · have hxi : (x : Int) < 5 := by omega
                  go_wp2_with fail
                  go_loopw [13] (fun y w6 => ∃ yy : Nat, yy ≤ 5 ∧ y = .int .i64 yy ∧ Only b wd w6 ∧ Holds w6 b 71 (lanesA fun j => if doneB x yy (srcs j) then rhopi T j else 0)) (fun y _ => 5 - (intOf y).toNat)
                  case atStart => exact ⟨0, by omega, rfl, o5, h5⟩
                  case round =>
                    clear o5 h5
                    obtain ⟨y, hy, rfl, o6, h6⟩ := hrel
                    by_cases hy5 : y < 5
                    · have hyi : (y : Int) < 5 := by omega
                      have hstep := pi_step T (fun _ => 0) b 71 wr.drew x y hx5 hy5 h6.drew
                      have cc := (o6.holds gaD (by omega)).laneAt (x + 5 * y) (by omega)
                      have co := (o6.holds goD (by omega)).cell (x + 5 * y)
                      rw [intsA_get 25 _ _ (by omega)] at co
                      have HOL : Hid (offs (x + 5 * y) < 64) := offs_lt _ (by omega)
                      obtain ⟨z, hz⟩ : ∃ z, z = (2 * x + 3 * y) % 5 := ⟨_, rfl⟩
                      rw [← hz] at hstep
                      have ez : (2 * (x : Int) + 3 * (y : Int)) % 5 = (z : Int) := by omega
                      have hz5 : (z : Int) < 5 := by omega
                      have cb := h6.laneAt (y + 5 * z) (by omega)
                      have hf := h6.frozen
                      have HST : Hid _ := hstep
                      clear hz h6 hstep
                      go_wp2_with fail
                      refine wp_region_qtail 23 mixedP (by kernel_rfl) ?_
                      simp only [List.take_succ_cons, List.take_zero, List.drop_succ_cons, List.drop_zero]
                      repeat (go_big_quiet_step (fail))
                      refine wpQ_call rfl 65 #[.int .u64 (lane (T (x + 5 * y))), .int .i64 ((offs (x + 5 * y) : Nat) : Int)] (fun _ => by go_simp) (.int .u64 (lane (rotl (T (x + 5 * y)) (offs (x + 5 * y))))) (fun w7 h7 => (refRot_any _ _ w7 HOL.out).mono fun e w8 ⟨he, h8⟩ => ⟨he, h8.trans h7⟩) ?_
                      simp only [Act.put, List.setIfInBounds_toArray, List.set_cons_succ, List.set_cons_zero]
                      repeat (go_big_quiet_step (fail))
                      refine wpQuiet_nil ?_
                      go_wp2
                      go_roundw
                      case rel => exact ⟨y + 1, by omega, rfl, (o6.drew.set _ _), HST.out⟩
                      case measure => simp [intOf]; omega
                    · have hyi : ¬ (y : Int) < 5 := by omega
                      have hyy : y = 5 := by omega
                      subst hyy
                      have h7 : Holds wr b 71 (lanesA fun j => if doneB (x + 1) 0 (srcs j) then rhopi T j else 0) := h6.congr (lanesA_congr fun j hj => by rw [done_col x _ (srcs_lt j hj)])
                      clear h6 hy
                      go_wp2
                      go_roundw
                      case rel => exact ⟨x + 1, by omega, rfl, o6, h7⟩
                      case measure => simp [intOf]; omega
                · have hxi : ¬ (x : Int) < 5 := by omega
                  have hxx : x = 5 := by omega
                  subst hxx
                  obtain ⟨R, hR⟩ : ∃ R, R = rhopi T := ⟨_, rfl⟩
                  have gbR : Holds wr b 71 (lanesA R) := h5.congr (lanesA_congr fun i _ => by rw [done_all, hR]; rfl)
                  have HR : Hid (R = rhopi T) := hR
                  have ga5 := o5.holds gaD (by omega)
                  have gr5 := o5.holds grD (by omega)
                  have go5 := o5.holds goD (by omega)
                  have gc5 := o5.holds gcD (by omega)
                  have hB5 : Below w.heap.size w wr := Only.fresh hBD o5 (by omega)
                  clear hR h5 o5 gaD grD goD gcD hBD hx
                  go_wp2_with fail
                  obtain ⟨we, hwe⟩ : ∃ we, we = wr := ⟨_, rfl⟩
                  rw [← hwe] at gbR ga5 gr5 go5 gc5 hB5 ⊢
                  clear hwe
                  go_loopw [14] (fun y w5 => ∃ x : Nat, x ≤ 5 ∧ y = .int .i64 x ∧ Only n we w5 ∧ Holds w5 n 71 (lanesA fun i => if doneB x 0 i then chi R i else T i)) (fun y _ => 5 - (intOf y).toNat)
                  case atStart => exact ⟨0, by omega, rfl, Only.refl _ _, ga5.congr (lanesA_congr fun i _ => by simp [done_none])⟩
                  case round =>
                    clear ga5
                    obtain ⟨x, hx, rfl, o5, h5⟩ := hrel
                    by_cases hx5 : x < 5
                    · have hxi : (x : Int) < 5 := by omega
                      go_wp2_with fail
                      go_loopw [15] (fun y w6 => ∃ yy : Nat, yy ≤ 5 ∧ y = .int .i64 yy ∧ Only n we w6 ∧ Holds w6 n 71 (lanesA fun i => if doneB x yy i then chi R i else T i)) (fun y _ => 5 - (intOf y).toNat)
                      case atStart => exact ⟨0, by omega, rfl, o5, h5⟩
                      case round =>
                        clear o5 h5
                        obtain ⟨y, hy, rfl, o6, h6⟩ := hrel
                        by_cases hy5 : y < 5
                        · have hyi : (y : Int) < 5 := by omega
                          have hb6 := o6.holds gbR (by omega)
                          obtain ⟨x1, hx1⟩ : ∃ x1, x1 = (x + 1) % 5 := ⟨_, rfl⟩
                          obtain ⟨x2, hx2⟩ : ∃ x2, x2 = (x + 2) % 5 := ⟨_, rfl⟩
                          have e1 : ((x : Int) + 1) % 5 = (x1 : Int) := by omega
                          have e2 : ((x : Int) + 2) % 5 = (x2 : Int) := by omega
                          have l1 : (x1 : Int) < 5 := by omega
                          have l2 : (x2 : Int) < 5 := by omega
                          have c0 := hb6.laneAt (x + 5 * y) (by omega)
                          have c1 := hb6.laneAt (x1 + 5 * y) (by omega)
                          have c2 := hb6.laneAt (x2 + 5 * y) (by omega)
                          have cn := h6.laneAt (x + 5 * y) (by omega)
                          have HC : Hid (R (x + 5 * y) ^^^ (~~~ R (x1 + 5 * y) &&& R (x2 + 5 * y)) = chi R (x + 5 * y)) := by rw [hx1, hx2]; exact chi_xy R x y hx5
                          have hf := h6.frozen
                          have H6 : Hid (Holds wr n 71 (lanesA fun i => if doneB x y i then chi R i else T i)) := h6
                          clear hx1 hx2 hb6 h6
                          go_wp2_with fail
                          refine wp_region_qtail 30 mixedP (by kernel_rfl) ?_
                          simp only [List.take_succ_cons, List.take_zero, List.drop_succ_cons, List.drop_zero]
                          repeat (go_big_quiet_step (fail))
                          refine wpQuiet_nil ?_
                          go_wp2
                          go_roundw
                          case rel =>
                            simp only [lane_notK, lane_and, lane_xor]
                            exact ⟨y + 1, by omega, rfl, (o6.drew.set _ _), grid_step (chi R) T n 71 _ x y hx5 hy5 (Holds.drew H6.out) _ HC.out⟩
                          case measure => simp [intOf]; omega
                        · have hyi : ¬ (y : Int) < 5 := by omega
                          have hyy : y = 5 := by omega
                          subst hyy
                          have h7 : Holds wr n 71 (lanesA fun i => if doneB (x + 1) 0 i then chi R i else T i) := h6.congr (lanesA_congr fun i hi => by rw [done_col x i hi])
                          clear h6 hy
                          go_wp2
                          go_roundw
                          case rel => exact ⟨x + 1, by omega, rfl, o6, h7⟩
                          case measure => simp [intOf]; omega
                    · have hxi : ¬ (x : Int) < 5 := by omega
                      have hxx : x = 5 := by omega
                      subst hxx
                      have gz : Holds wr n 71 (lanesA (chi R)) := h5.congr (lanesA_congr fun i _ => by rw [done_all]; rfl)
                      have gr6 := o5.holds gr5 (by omega)
                      have go6 := o5.holds go5 (by omega)
                      have gc6 := o5.holds gc5 (by omega)
                      have hB6 : Below w.heap.size w wr := Only.fresh hB5 o5 hnw
                      have cr := gc6.cell k
                      rw [lanes24_get _ _ hlt] at cr
                      have c0 := gz.laneAt 0 (by omega)
                      have hf := gz.frozen
                      have hnq : n ≠ q := by omega
                      have HZ : Hid (Holds wr n 71 (lanesA (chi R))) := gz
                      clear h5 o5 gr5 go5 gc5 hB5 gbR hx gz
                      go_wp2_with fail
                      go_region
                      go_wp2
                      go_roundw
                      case rel =>
                        rw [lane_xor]
                        refine ⟨k + 1, by omega, rfl, Only.fresh hB6 ((Only.refl _ _).set 0 _).drew hnw, ?_, ⟨g, Holds.drew (Holds.other gr6 _ _ (by simp))⟩, Holds.drew (Holds.other go6 _ _ (by simp; omega)), Holds.drew (Holds.other gc6 _ _ (by simp; omega))⟩
                        have e : rounds (k + 1) s = iota k (chi R) := by rw [HR.out, HT.out, HS.out]; rfl
                        rw [e]
                        exact Holds.drew ((Holds.set HZ.out 0 _).congr (lanesA_iota k _))
                      case measure => simp [intOf]; omega
    · have hk1 : ¬ (k : Int) < 24 := by omega
      have hkk : k = 24 := by omega
      subst hkk
      have hin : (Tryd.prog.info? 71).map (·.size) = some (lanesA (rounds 24 s)).size := by rw [lanesA_size]; exact info25
      have hzs : (lanesA g).size = (lanesA (rounds 24 s)).size := by rw [lanesA_size, lanesA_size]
      have hon := lanesA_one (rounds 24 s)
      generalize hcz : lanesA (rounds 24 s) = cz at hin hzs hon ha
      have HCZ : Hid (lanesA (rounds 24 s) = cz) := hcz
      clear hcz
      go_wp2_with (first
        | (refine wpList_loadH rfl 71 _ rfl n rfl 71 cz _ ha Tryd.underlying71 rfl hin ?_)
        | (refine wpList_storeH rfl 71 _ _ rfl (n + 1) cz rfl rfl 71 _ hg hin hzs hon ?_
           intro w1 h1 o1 z1))
      rw [← HCZ.out] at h1 hin
      exact bodyPost_ret (results_cellH rfl _ _ (n + 1) 71 (lanesA (rounds 24 s)) _ rfl h1 Tryd.underlying71 rfl hin) rfl
        ⟨rfl, Only.fresh hB o1 (by have := HN.out; omega)⟩

end Go.Proofs.YtjdhdeffiigpbaaDoor.K
/-
  A block of bytes, padded and put together into lanes. Plain; nothing of the program.
-/
namespace Go.Proofs.YtjdhdeffiigpbaaDoor.K
open Go.RowKit

/-- The lanes, as far as k bytes are in. -/
def fillUp (B : Nat → UInt8) (k : Nat) : Nat → BitVec 64 := fun j => laneUp B j (min 8 (k - 8 * j))
theorem fill_none (B : Nat → UInt8) (j : Nat) : fillUp B 0 j = 0 := by
  unfold fillUp; rw [show min 8 (0 - 8 * j) = 0 by omega]; rfl
theorem fill_old (B : Nat → UInt8) (k : Nat) : fillUp B k (k / 8) = laneUp B (k / 8) (k % 8) := by
  unfold fillUp; rw [show min 8 (k - 8 * (k / 8)) = k % 8 by omega]
theorem fill_step (B : Nat → UInt8) (b : Nat) (t : TypeId) (w : World) (k : Nat) (hk : k < 136) (h : Holds w b t (lanesA (fillUp B k))) :
    Holds (w.setCell ⟨b, k / 8, none⟩ (.int .u64 (lane (laneUp B (k / 8) (k % 8) ||| wide (B k) <<< (8 * (k % 8)))))) b t (lanesA (fillUp B (k + 1))) := by
  refine (h.laneSet (k / 8) _ (by omega)).congr (lanesA_congr fun j _ => ?_)
  by_cases e : j = k / 8
  · rw [if_pos e]
    subst e
    unfold fillUp
    rw [show min 8 (k + 1 - 8 * (k / 8)) = k % 8 + 1 by omega, laneUp, show 8 * (k / 8) + k % 8 = k by omega]
  · rw [if_neg e]
    unfold fillUp
    rw [show min 8 (k + 1 - 8 * j) = min 8 (k - 8 * j) by omega]
theorem fill_all (B : Nat → UInt8) (j : Nat) : fillUp B 136 j = mixUp (fun _ => 0) B 17 j := by
  unfold fillUp mixUp
  by_cases c : j < 17
  · rw [if_pos c, show min 8 (136 - 8 * j) = 8 by omega]
    exact BitVec.zero_xor.symm
  · rw [if_neg c, show min 8 (136 - 8 * j) = 0 by omega]; rfl
/-- Of at most 135 bytes. -/
theorem hash_short (M : List UInt8) (h : M.length < 136) : hashOf M = byteAt (soak (fun _ => 0) (lastB M)) := by
  unfold hashOf
  rw [show M.length / 136 = 0 by omega]
  rfl
theorem short_bytes (X : ByteArray) : bytesA 136 (fun j => if j < X.size then X.data.toList.getD j 0 else 0) = bytesA 136 (over (fun _ => 0) 0 (firstB (fun j => X.data.toList.getD j 0) X.size)) :=
  bytesA_congr fun j _ => by
    unfold over
    rw [firstB_length]
    by_cases c : j < X.size
    · rw [if_pos c, if_pos (by omega), Nat.sub_zero, firstB_get _ _ _ c]
    · rw [if_neg c, if_neg (by omega)]
theorem byte_get (X : ByteArray) (k : Nat) (h : k < X.size) : ((X[k].toNat : Nat) : Int) = oct (X.data.toList.getD k 0) := by
  have e : X.data.toList.getD k 0 = X[k] := by
    rw [List.getD_eq_getElem?_getD, Array.getElem?_toList, Array.getElem?_eq_getElem (by exact h), Option.getD_some]; rfl
  rw [e]; rfl
theorem text_step (X : ByteArray) (b : Nat) (t : TypeId) (w : World) (k : Nat) (hk : k < X.size) (h : Holds w b t (bytesA 136 fun j => if j < k then X.data.toList.getD j 0 else 0)) :
    Holds (w.setCell ⟨b, k, none⟩ (.int .u8 (oct (X.data.toList.getD k 0)))) b t (bytesA 136 fun j => if j < k + 1 then X.data.toList.getD j 0 else 0) := by
  refine (h.byteSet k _).congr (bytesA_congr fun j _ => ?_)
  by_cases e : j = k
  · subst e; simp
  · by_cases c : j < k
    · simp [e, c, show j < k + 1 by omega]
    · simp [e, c, show ¬ j < k + 1 by omega]

end Go.Proofs.YtjdhdeffiigpbaaDoor.K
/-
  The document's padding and its blocks are the hash's. Plain; nothing of the program.
-/
namespace Go.Proofs.YtjdhdeffiigpbaaDoor.K
open Go.RowKit

theorem wide_hi (c : UInt8) (b : Nat) (hb : 8 ≤ b) : (wide c).getLsbD b = false := by
  unfold wide
  rw [BitVec.getLsbD_ofNat]
  have h1 : c.toNat < 2 ^ 8 := c.toNat_lt
  have : c.toNat.testBit b = false := Nat.testBit_lt_two_pow (Nat.lt_of_lt_of_le h1 (Nat.pow_le_pow_right (by omega) hb))
  simp [this]
theorem laneUp_hi (B : Nat → UInt8) (i : Nat) : ∀ j b, 8 * j ≤ b → (laneUp B i j).getLsbD b = false
  | 0, _, _ => by simp [laneUp]
  | j + 1, b, h => by
    rw [laneUp, BitVec.getLsbD_or, laneUp_hi B i j b (by omega), BitVec.getLsbD_shiftLeft, wide_hi _ _ (by omega)]
    simp
theorem laneUp_xor (B : Nat → UInt8) (i j : Nat) : laneUp B i j ^^^ wide (B (8 * i + j)) <<< (8 * j) = laneUp B i (j + 1) := by
  apply BitVec.eq_of_getLsbD_eq
  intro b _
  rw [laneUp, BitVec.getLsbD_or, BitVec.getLsbD_xor, BitVec.getLsbD_shiftLeft]
  by_cases c : b < 8 * j
  · simp [c]
  · rw [laneUp_hi B i j b (by omega)]; simp

/-- A state, with the first k bytes of a block in. -/
def xfill (S : Nat → BitVec 64) (B : Nat → UInt8) (k : Nat) : Nat → BitVec 64 := fun j => S j ^^^ fillUp B k j
theorem xfill_none (S : Nat → BitVec 64) (B : Nat → UInt8) (j : Nat) : xfill S B 0 j = S j := by
  unfold xfill; rw [fill_none]; simp
theorem xfill_all (S : Nat → BitVec 64) (B : Nat → UInt8) (j : Nat) : xfill S B 136 j = mixUp S B 17 j := by
  unfold xfill
  rw [fill_all]
  unfold mixUp
  by_cases c : j < 17
  · rw [if_pos c, if_pos c]
    show S j ^^^ (0#64 ^^^ laneUp B j 8) = _
    rw [BitVec.zero_xor]
  · rw [if_neg c, if_neg c]
    show S j ^^^ 0 = S j
    simp
theorem xfill_step (S : Nat → BitVec 64) (B : Nat → UInt8) (b : Nat) (t : TypeId) (w : World) (k : Nat) (hk : k < 136) (h : Holds w b t (lanesA (xfill S B k))) :
    Holds (w.setCell ⟨b, k / 8, none⟩ (.int .u64 (lane (xfill S B k (k / 8) ^^^ wide (B k) <<< (8 * (k % 8)))))) b t (lanesA (xfill S B (k + 1))) := by
  refine (h.laneSet (k / 8) _ (by omega)).congr (lanesA_congr fun j _ => ?_)
  by_cases e : j = k / 8
  · rw [if_pos e]
    subst e
    unfold xfill
    rw [fill_old, BitVec.xor_assoc]
    have h1 := laneUp_xor B (k / 8) (k % 8)
    rw [show 8 * (k / 8) + k % 8 = k by omega] at h1
    rw [h1]
    unfold fillUp
    rw [show min 8 (k + 1 - 8 * (k / 8)) = k % 8 + 1 by omega]
  · rw [if_neg e]
    unfold xfill fillUp
    rw [show min 8 (k + 1 - 8 * j) = min 8 (k - 8 * j) by omega]

/-- How many bytes the padded text has. -/
def padN (M : List UInt8) : Nat := 136 * (M.length / 136 + 1)
/-- The padded text's bytes. -/
def padB (M : List UInt8) : Nat → UInt8 := fun i => if i < M.length then M.getD i 0 else (if i = M.length then 1 else 0) ||| (if i + 1 = padN M then 128 else 0)
/-- The state behind the first q blocks of the padded text. -/
def padS (M : List UInt8) : Nat → Nat → BitVec 64
  | 0 => fun _ => 0
  | q + 1 => soak (padS M q) (fun j => padB M (136 * q + j))
theorem padS_soak (M : List UInt8) : ∀ q, q ≤ M.length / 136 → Same (padS M q) (soakN M q)
  | 0, _ => fun _ _ => rfl
  | q + 1, h => by
    refine soak_congr (padS_soak M q (by omega)) fun j hj => ?_
    unfold padB
    rw [if_pos (by omega)]
theorem padB_last (M : List UInt8) (j : Nat) (_hj : j < 136) : padB M (136 * (M.length / 136) + j) = lastB M j := by
  unfold padB lastB padN
  by_cases c : j < M.length % 136
  · rw [if_pos (by omega), if_pos c, if_neg (by omega), if_neg (by omega)]; simp
  · rw [if_neg (by omega), if_neg c]
    by_cases d : j = M.length % 136
    · by_cases e : j = 135
      · rw [if_pos (by omega), if_pos (by omega), if_pos d, if_pos e]; decide
      · rw [if_pos (by omega), if_neg (by omega), if_pos d, if_neg e]; decide
    · by_cases e : j = 135
      · rw [if_neg (by omega), if_pos (by omega), if_neg d, if_pos e]; decide
      · rw [if_neg (by omega), if_neg (by omega), if_neg d, if_neg e]; decide
theorem padS_end (M : List UInt8) : Same (padS M (M.length / 136 + 1)) (soak (soakN M (M.length / 136)) (lastB M)) :=
  soak_congr (padS_soak M _ (Nat.le_refl _)) (padB_last M)
theorem byteAt_same {s r : Nat → BitVec 64} (h : Same s r) (i : Nat) (hi : i < 32) : byteAt s i = byteAt r i := by
  unfold byteAt; rw [h (i / 8) (by omega)]

/-- The padded text as a list, ahead of its last bit. -/
def padL (M : List UInt8) (k : Nat) : List UInt8 := M ++ [1] ++ List.replicate k 0
theorem padL_length (M : List UInt8) (k : Nat) : (padL M k).length = M.length + 1 + k := by simp [padL]; omega
theorem padL_get (M : List UInt8) (k i : Nat) (h : i < M.length + 1 + k) : (padL M k).getD i 0 = if i < M.length then M.getD i 0 else if i = M.length then 1 else 0 := by
  unfold padL
  rw [List.getD_eq_getElem?_getD]
  by_cases c : i < M.length
  · rw [if_pos c, List.append_assoc, List.getElem?_append_left c, List.getD_eq_getElem?_getD]
  · rw [if_neg c, List.append_assoc, List.getElem?_append_right (by omega)]
    by_cases d : i = M.length
    · rw [if_pos d]; subst d; simp
    · rw [if_neg d, List.getElem?_append_right (by simp; omega), List.getElem?_replicate]
      split <;> rfl
theorem padL_last (M : List UInt8) (k i : Nat) (hN : M.length + 1 + k = padN M) (h : i < padN M) : (if i + 1 = padN M then (padL M k).getD i 0 ||| 128 else (padL M k).getD i 0) = padB M i := by
  rw [padL_get M k i (by omega)]
  unfold padB
  by_cases c : i < M.length
  · rw [if_pos c, if_pos c, if_neg (by omega)]
  · rw [if_neg c, if_neg c]
    by_cases d : i + 1 = padN M
    · rw [if_pos d, if_pos d]
    · rw [if_neg d, if_neg d]; simp

end Go.Proofs.YtjdhdeffiigpbaaDoor.K
/-
  What the call of the document's Sum does.
-/
namespace Go.Proofs.YtjdhdeffiigpbaaDoor.K
open Go.RowKit Go.Lib

theorem infoU8i : ∃ i, Tryd.prog.info? 5 = some i ∧ i.zero = some (.int .u8 0) ∧ i.size = 1 ∧ i.bytes = 1 := by
  have h : (Tryd.prog.info? 5).map (fun i => (i.zero, i.size, i.bytes)) = some (some (.int .u8 0), 1, 1) := by kernel_rfl
  cases hq : Tryd.prog.info? 5 with
  | none => rw [hq] at h; cases h
  | some i =>
    rw [hq] at h
    simp only [Option.map_some, Option.some.injEq, Prod.mk.injEq] at h
    exact ⟨i, rfl, h.1, h.2.1, h.2.2⟩
theorem underString : Tryd.prog.underlying 9 = some .string := by kernel_rfl
theorem underBytesR : Tryd.prog.underlying 57 = some (.slice 5) := by kernel_rfl
theorem strCells_octs (x : ByteArray) : strCells x = octs x.data.toList := rfl

def sliceLen : Value → Nat
  | .slice _ n _ => n
  | _ => 0
/-- A slice of bytes that the call itself has made. -/
theorem owned_slice {w : World} {base n : Nat} {v : Value} {l : List UInt8} (h : w.ownsRow base 5 1 v n (octs l)) (hn : 0 < n) :
    ∃ g cap, v = .slice (some ⟨g, 0, none⟩) n cap ∧ base ≤ g ∧ g < w.heap.size := by
  rcases h.2 with ⟨_, h0⟩ | ⟨g, cap, cur, h1, h2, h3, _⟩
  · omega
  · exact ⟨g, cap, h1, h2, (Array.getElem?_eq_some_iff.1 h3).1⟩
theorem Below.grownW {B : Nat} {a w w' : World} {row : Option Nat} (h : Below B a w) (hg : w.grownBy w' row) (hB : B ≤ w.heap.size) (hr : ∀ k, row = some k → B ≤ k) : Below B a w' := h.grown hg hB hr
theorem Holds.grown {w w' : World} {b : Nat} {t : TypeId} {cs : Array Value} {row : Option Nat} (h : Holds w b t cs) (hg : w.grownBy w' row) (hb : some b ≠ row) : Holds w' b t cs := by
  have := h.lt
  unfold Holds at *
  rw [hg.block b this hb]; exact h
theorem one_news (w : World) (v : Value) (j : Nat) (u : Value) (h : [v][j]? = some u) : (w.alloc (.cells #[v] 5)).cell? ((⟨w.heap.size, 0, none⟩ : Addr).add j) = some u := by
  have hj : j = 0 := by
    rcases j with _ | j
    · rfl
    · simp at h
  subst hj
  rw [Addr.add_mid, (Holds.new w 5 #[v]).cell]
  exact h

theorem oct_or (c d : UInt8) : bits .or .u8 (oct c) (oct d) = oct (c ||| d) := by
  unfold oct
  have hc := c.toNat_lt
  have hd := d.toNat_lt
  have hx : c.toNat ||| d.toNat < 2 ^ 8 := Nat.or_lt_two_pow (by omega) (by omega)
  have h1 : (BitVec.ofInt 8 (c.toNat : Int)).toNat = c.toNat := by
    rw [BitVec.ofInt_natCast, BitVec.toNat_ofNat]; exact Nat.mod_eq_of_lt (by omega)
  have h2 : (BitVec.ofInt 8 (d.toNat : Int)).toNat = d.toNat := by
    rw [BitVec.ofInt_natCast, BitVec.toNat_ofNat]; exact Nat.mod_eq_of_lt (by omega)
  show IntKind.u8.wrap ((BitVec.ofInt 8 (c.toNat : Int) ||| BitVec.ofInt 8 (d.toNat : Int)).toNat : Int) = _
  rw [BitVec.toNat_or, h1, h2, UInt8.toNat_or]
  simp [IntKind.wrap, IntKind.bits, IntKind.signed]
  omega
theorem oct_or128 (c : UInt8) : bits .or .u8 (oct c) 128 = oct (c ||| 128) := oct_or c 128
theorem info25R : (Tryd.prog.info? 71).map (·.size) = some 25 := by kernel_rfl

set_option maxRecDepth 4000 in
set_option maxHeartbeats 4000000 in
theorem refSum_any (x : ByteArray) (w : World) (hx : x.size ≤ 3000) :
    Calls Tryd.prog 25 #[.string x] w fun e w' => e = .returned (.agg (bytesA 32 (hashOf x.data.toList))) ∧ Below w.heap.size w w' := by
  obtain ⟨i8, hi, hiz, his, hib⟩ := infoU8i
  have HI : Hid (Tryd.prog.info? 5 = some i8 ∧ i8.zero = some (.int .u8 0) ∧ i8.size = 1 ∧ i8.bytes = 1) := ⟨hi, hiz, his, hib⟩
  clear hi hiz his hib
  obtain ⟨n, hn⟩ : ∃ n, n = w.heap.size := ⟨_, rfl⟩
  have HN : Hid (n = w.heap.size) := hn
  obtain ⟨M, hM⟩ : ∃ M, M = x.data.toList := ⟨_, rfl⟩
  have hML : M.length = x.size := by rw [hM]; rfl
  have HM : Hid (M = x.data.toList) := hM
  have HML : Hid (M.length = x.size) := hML
  have hmax : (3000 : Nat) + 200 ≤ maxLen := by decide
  clear hM hML hn
  go_enter Tryd.func25, Tryd.ntmps25
  go_wp2_with (first
    | (refine wpList_append_own_string _ rfl _ _ 57 9 rfl (n + 1) 5 i8 underBytesR underString HI.out.1 HI.out.2.1 HI.out.2.2.1 HI.out.2.2.2 (.slice none 0 0) 0 [] rfl (World.ownsRow_nil _ _ _ _) x rfl (by omega) (by omega) (by rw [World.size_alloc, HN.out]; exact Nat.le_refl _) ?_
       intro v1 w1 own1 gr1 _
       rw [Nat.zero_add, List.nil_append, strCells_octs, ← HM.out] at own1
       have hB1 : Below w.heap.size w w1 := Below.grownW ((Below.refl _ _).alloc (Nat.le_refl _) _) gr1 (by simp) (fun k hk => by simp [Value.ownBlock] at hk)
       have gr : Holds w1 n 40 (bytesA 32 fun _ => 0) := by rw [HN.out]; exact Holds.grown (Holds.new w 40 (bytesA 32 fun _ => 0)) gr1 (by simp [Value.ownBlock])
       have hs1 : n + 1 ≤ w1.heap.size := by have := gr1.size; rw [World.size_alloc] at this; have := HN.out; omega
       clear gr1)
    | (refine wpList_append_own _ rfl _ _ 57 rfl (n + 1) 5 i8 (.int .u8 0) 1 1 underBytesR HI.out.1 HI.out.2.1 HI.out.2.2.1 HI.out.2.2.2 rfl (by omega) v1 x.size (octs M) rfl (own1.alloc _) ⟨w1.heap.size, 0, none⟩ 1 1 [.int .u8 1] rfl rfl (one_news w1 _) (by intro u hu; simp at hu; subst hu; rfl) (by omega) (by omega) (by rw [World.size_alloc]; omega) ?_
       intro v2 w2 own2 gr2 _
       have own2' : w2.ownsRow (n + 1) 5 1 v2 (x.size + 1) (octs (padL M 0)) := by
         have e : octs (padL M 0) = octs M ++ [.int .u8 1] := by simp [padL, octs]; rfl
         rw [e]; exact own2
       have hr2 : ∀ k, v1.ownBlock = some k → n + 1 ≤ k := fun k hk => (own1.lt k hk).1
       have hB2 : Below w.heap.size w w2 := Below.grownW (hB1.alloc hB1.size _) gr2 (Nat.le_trans hB1.size (by simp)) (fun k hk => by have := hr2 k hk; have := HN.out; omega)
       have g2 : Holds w2 n 40 (bytesA 32 fun _ => 0) := Holds.grown (gr.alloc _) gr2 (fun q => by have := hr2 n q.symm; omega)
       have hs2 : n + 1 ≤ w2.heap.size := by have := gr2.size; rw [World.size_alloc] at this; omega
       clear gr2 own2 hr2 own1 hB1 gr hs1)
    | fail)
  have HX : Hid (x.size ≤ 3000) := hx
  obtain ⟨z, hz⟩ : ∃ z, z = 135 - x.size % 136 := ⟨_, rfl⟩
  have HZ : Hid (z = 135 - x.size % 136) := hz
  clear hz
  rw [← HN.out]
  go_loopw [3] (fun sv wr => ∃ (k : Nat) (v : Value), k ≤ z ∧ sv = v ∧ Below w.heap.size w wr ∧ Holds wr n 40 (bytesA 32 fun _ => 0) ∧ n + 1 ≤ wr.heap.size ∧ wr.ownsRow (n + 1) 5 1 v (x.size + 1 + k) (octs (padL M k))) (fun sv _ => padN M - sliceLen sv)
  case atStart => exact ⟨0, v2, by omega, rfl, hB2, g2, hs2, own2'⟩
  case round =>
    clear own2' hB2 g2 hs2
    obtain ⟨k, v, hk, rfl, hB, hg, hs, own⟩ := hrel
    obtain ⟨g, cap, rfl, hgb, hgl⟩ := owned_slice own (by omega)
    obtain ⟨T, hT⟩ : ∃ T, x.size + 1 + k = T := ⟨_, rfl⟩
    rw [hT] at own ⊢
    have HT : Hid (x.size + 1 + k = T) := hT
    have hTs : T ≤ 3150 := by have := HX.out; have := HZ.out; omega
    have hTi : (T : Int) ≤ 3150 := by omega
    have hTp : 1 ≤ T := by omega
    clear hT
    by_cases hlt : k < z
    · obtain ⟨r, hr⟩ : ∃ r, r = T % 136 := ⟨_, rfl⟩
      have htm : (T : Int).tmod 136 = (r : Int) := by rw [Int.tmod_eq_emod_of_nonneg (by omega)]; omega
      have hr0 : (0 : Int) < r := by have := HT.out; have := HZ.out; omega
      have hr1 : ((r : Int) == 0) = false := by simp; omega
      have OWN : Hid (wr.ownsRow (n + 1) 5 1 (.slice (some ⟨g, 0, none⟩) T cap) T (octs (padL M k))) := own
      clear hr own
      go_wp2_with (first
        | (refine wpList_append_own _ rfl _ _ 57 rfl (n + 1) 5 i8 (.int .u8 0) 1 1 underBytesR HI.out.1 HI.out.2.1 HI.out.2.2.1 HI.out.2.2.2 rfl (by omega) (.slice (some ⟨g, 0, none⟩) T cap) T (octs (padL M k)) rfl (World.ownsRow.alloc OWN.out _) ⟨wr.heap.size, 0, none⟩ 1 1 [.int .u8 0] rfl rfl (one_news wr _) (by intro u hu; simp at hu; subst hu; rfl) (by omega) (by omega) (by rw [World.size_alloc]; omega) ?_
           intro v3 w3 own3 gr3 _
           have own3' : w3.ownsRow (n + 1) 5 1 v3 (x.size + 1 + (k + 1)) (octs (padL M (k + 1))) := by
             have e : octs (padL M (k + 1)) = octs (padL M k) ++ [.int .u8 0] := by
               unfold padL
               rw [List.replicate_succ', ← List.append_assoc]
               simp [octs]; rfl
             rw [e, show x.size + 1 + (k + 1) = T + 1 by have := HT.out; omega]; exact own3
           have hB3 : Below w.heap.size w w3 := Below.grownW (hB.alloc hB.size _) gr3 (Nat.le_trans hB.size (by simp)) (fun q hq => by simp [Value.ownBlock] at hq; have := HN.out; omega)
           have g3 : Holds w3 n 40 (bytesA 32 fun _ => 0) := Holds.grown (hg.alloc _) gr3 (by simp [Value.ownBlock]; omega)
           have hs3 : n + 1 ≤ w3.heap.size := by have := gr3.size; rw [World.size_alloc] at this; omega
           obtain ⟨g3a, cap3, rfl, _, _⟩ := owned_slice own3' (by omega)
           clear gr3 own3)
        | fail)
      go_roundw
      case rel => exact ⟨k + 1, _, by omega, rfl, hB3, g3, hs3, own3'⟩
      case measure =>
        show padN M - (x.size + 1 + (k + 1)) < padN M - T
        have h1 := HML.out
        have h2 := HT.out
        have h3 := HZ.out
        unfold padN
        omega
    · have hkz : k = z := by omega
      have hTN : T = padN M := by
        have h1 := HML.out
        have h2 := HT.out
        have h3 := HZ.out
        unfold padN
        omega
      have htm : (T : Int).tmod 136 = 0 := by rw [Int.tmod_eq_emod_of_nonneg (by omega)]; have := HT.out; have := HZ.out; omega
      have c1 := own.cellAt (T - 1) (by omega)
      rw [octs_get _ _ (by rw [padL_length]; have := HML.out; have := HT.out; omega)] at c1
      have hfz := own.frozenAt
      have OWN : Hid (wr.ownsRow (n + 1) 5 1 (.slice (some ⟨g, 0, none⟩) T cap) T (octs (padL M k))) := own
      have HTN : Hid (T = padN M) := hTN
      have hT1 : (1 : Int) ≤ T := by have := HT.out; omega
      obtain ⟨U, hU⟩ : ∃ U, T = U + 1 := ⟨T - 1, by omega⟩
      have hUi : ((T : Int) - 1) = (U : Int) := by omega
      have hUT : (U : Int) < T := by omega
      rw [show T - 1 = U by omega] at c1
      obtain ⟨cl, hcl⟩ : ∃ cl, (padL M k).getD U 0 = cl := ⟨_, rfl⟩
      rw [hcl] at c1
      have HCL : Hid ((padL M k).getD U 0 = cl) := hcl
      have HU : Hid (T = U + 1) := hU
      clear own hTN hkz hU hcl
      go_wp2_with fail
      rw [oct_or128]
      have hby : ∀ i, i < T → (wr.setCell ⟨g, U, none⟩ (.int .u8 (oct (cl ||| 128)))).cell? ⟨g, i, none⟩ = some (.int .u8 (oct (padB M i))) := fun i hi => by
        have hN := HTN.out
        have hu := HU.out
        have hb := padL_last M k i (by have := HML.out; have := HT.out; omega) (by omega)
        by_cases e : i = U
        · subst e
          rw [if_pos (by omega), HCL.out] at hb
          rw [World.cell?_setCell_same _ _ _ c1, ← hb]
        · rw [if_neg (by omega)] at hb
          rw [World.cell?_setCell_other _ _ _ _ (fun q => e (by simpa using q.symm)), OWN.out.cellAt i (by omega), octs_get _ _ (by rw [padL_length]; have := HML.out; have := HT.out; omega), hb]
      have hB2 : Below w.heap.size w (wr.setCell ⟨g, U, none⟩ (.int .u8 (oct (cl ||| 128)))) := hB.setCell (by have := HN.out; show _ ≤ g; omega) _
      have hg2 : Holds (wr.setCell ⟨g, U, none⟩ (.int .u8 (oct (cl ||| 128)))) n 40 (bytesA 32 fun _ => 0) := Holds.other hg _ _ (by show n ≠ g; omega)
      have hz2 : (wr.setCell ⟨g, U, none⟩ (.int .u8 (oct (cl ||| 128)))).heap.size = wr.heap.size := World.size_setCell _ _ _
      generalize wr.setCell ⟨g, U, none⟩ (.int .u8 (oct (cl ||| 128))) = w2 at hby hB2 hg2 hz2 ⊢
      obtain ⟨a, ha⟩ : ∃ a, a = wr.heap.size := ⟨_, rfl⟩
      rw [← ha] at hgl hs hz2 ⊢
      have HZ2 : Hid (w2.heap.size = a) := hz2
      clear ha c1 hfz OWN hB hg hz2 HCL htm hUi hUT HU
      obtain ⟨Q, hQ⟩ : ∃ Q, Q = M.length / 136 + 1 := ⟨_, rfl⟩
      have HQ : Hid (Q = M.length / 136 + 1) := hQ
      have hTQ : T = 136 * Q := by rw [HTN.out, hQ]; rfl
      have HTQ : Hid (T = 136 * Q) := hTQ
      have hga : g ≠ a := by omega
      have hna : n ≠ a := by omega
      clear hQ hTQ HTN
      go_loopw [5] (fun y wr => ∃ q : Nat, q ≤ Q ∧ y = .int .i64 (136 * q : Nat) ∧ Below w.heap.size w wr ∧ Holds wr n 40 (bytesA 32 fun _ => 0) ∧ (∀ i, i < T → wr.cell? ⟨g, i, none⟩ = some (.int .u8 (oct (padB M i)))) ∧ g < wr.heap.size ∧ Holds wr a 71 (lanesA (padS M q))) (fun y _ => T - (intOf y).toNat)
      case atStart =>
        refine ⟨0, by omega, rfl, hB2.alloc hB2.size _, hg2.alloc _, fun i hi => ?_, by rw [World.size_alloc, HZ2.out]; omega, ?_⟩
        · rw [World.cell?_alloc_lt _ _ _ (by rw [HZ2.out]; exact hgl)]; exact hby i hi
        · have h := Holds.new w2 71 (lanesA fun _ => 0)
          rw [HZ2.out] at h
          exact h
      case round =>
        clear hby hB2 hg2
        obtain ⟨q, hq, rfl, hB, hg, hby, hgw, hh⟩ := hrel
        obtain ⟨A, hA⟩ : ∃ A, 136 * q = A := ⟨_, rfl⟩
        rw [hA]
        have HA : Hid (136 * q = A) := hA
        clear hA
        by_cases hlt : q < Q
        · have hAT : (A : Int) < T := by have := HA.out; have := HTQ.out; omega
          have hA2 : A + 136 ≤ T := by have := HA.out; have := HTQ.out; omega
          go_wp2_with fail
          go_loopw [6] (fun y wr => ∃ j : Nat, j ≤ 136 ∧ y = .int .i64 j ∧ Below w.heap.size w wr ∧ Holds wr n 40 (bytesA 32 fun _ => 0) ∧ (∀ i, i < T → wr.cell? ⟨g, i, none⟩ = some (.int .u8 (oct (padB M i)))) ∧ g < wr.heap.size ∧ Holds wr a 71 (lanesA (xfill (padS M q) (fun i => padB M (136 * q + i)) j))) (fun y _ => 136 - (intOf y).toNat)
          case atStart => exact ⟨0, by omega, rfl, hB, hg, hby, hgw, hh.congr (lanesA_congr fun i _ => (xfill_none _ _ i).symm)⟩
          case round =>
            clear hB hg hby hgw hh
            obtain ⟨j, hj, rfl, hB, hg, hby, hgw, hh⟩ := hrel
            by_cases hj136 : j < 136
            · have hji : (j : Int) < 136 := by omega
              have cb := hby (A + j) (by omega)
              have ca := hh.laneAt (j / 8) (by omega)
              have hf := hh.frozen
              have hstep := xfill_step (padS M q) (fun i => padB M (136 * q + i)) a 71 wr.drew j hj136 hh.drew
              obtain ⟨c, hc⟩ : ∃ c, padB M (136 * q + j) = c := ⟨_, rfl⟩
              obtain ⟨L, hL⟩ : ∃ L, xfill (padS M q) (fun i => padB M (136 * q + i)) j (j / 8) = L := ⟨_, rfl⟩
              rw [← HA.out, hc] at cb
              rw [HA.out] at cb
              rw [hL] at ca hstep
              rw [hc] at hstep
              have hbi : (A : Int) + j < T := by omega
              have c0 := oct_nn c
              have c2 := oct_le c
              have HST : Hid _ := hstep
              have HBY : Hid (∀ i, i < T → wr.cell? ⟨g, i, none⟩ = some (.int .u8 (oct (padB M i)))) := hby
              clear hstep hc hL hh hby
              go_wp2_with fail
              refine wp_region_qtail 20 mixedP (by kernel_rfl) ?_
              simp only [List.take_succ_cons, List.take_zero, List.drop_succ_cons, List.drop_zero]
              repeat (go_big_quiet_step (fail))
              refine wpQuiet_nil ?_
              go_wp2
              go_roundw
              case rel =>
                rw [oct_wide, lane_shl, lane_xor]
                refine ⟨j + 1, by omega, rfl, (Below.setCell hB (by have := HN.out; show _ ≤ a; omega) _).drew, Holds.drew (Holds.other hg _ _ hna), fun i hi => ?_, by rw [World.size_drew, World.size_setCell]; exact hgw, HST.out⟩
                rw [World.cell?_drew, World.cell?_setCell_other _ _ _ _ (fun q => hga (congrArg Addr.block q).symm)]
                exact HBY.out i hi
              case measure => simp [intOf]; omega
            · have hji : ¬ (j : Int) < 136 := by omega
              have hjj : j = 136 := by omega
              subst hjj
              have h4 : Holds wr a 71 (lanesA (mixUp (padS M q) (fun i => padB M (136 * q + i)) 17)) := hh.congr (lanesA_congr fun i _ => xfill_all _ _ i)
              obtain ⟨X, hX⟩ : ∃ X, X = mixUp (padS M q) (fun i => padB M (136 * q + i)) 17 := ⟨_, rfl⟩
              rw [← hX] at h4
              have HX2 : Hid (padS M (q + 1) = perm X) := by rw [hX]; rfl
              clear hh hj hX
              go_wp2_with (first
                | (refine wpList_loadH rfl 71 _ rfl a rfl 71 (lanesA X) _ h4 Tryd.underlying71 rfl (by rw [lanesA_size]; exact info25R) ?_)
                | fail)
              refine (refPermute_any X wr).mono ?_
              rintro e w4 ⟨rfl, hB4⟩
              have h5 := Below.holds hB4 h4
              have g5 := Below.holds hB4 hg
              have hBB5 := hB.trans (hB4.mono hB.size)
              have hby5 : ∀ i, i < T → w4.cell? ⟨g, i, none⟩ = some (.int .u8 (oct (padB M i))) := fun i hi => by rw [hB4.cell (p := ⟨g, i, none⟩) hgw]; exact hby i hi
              have hgw5 : g < w4.heap.size := Nat.lt_of_lt_of_le hgw hB4.size
              have hin : (Tryd.prog.info? 71).map (·.size) = some (lanesA (perm X)).size := by rw [lanesA_size]; exact info25R
              have hzs : (lanesA X).size = (lanesA (perm X)).size := by rw [lanesA_size, lanesA_size]
              have hon := lanesA_one (perm X)
              generalize hcz : lanesA (perm X) = cz at hin hzs hon ⊢
              have HCZ : Hid (lanesA (perm X) = cz) := hcz
              clear hcz h4 hg hB hby hgw hB4
              dsimp only
              go_wp2_with (first
                | (refine wpList_storeH rfl 71 _ _ rfl a cz rfl rfl 71 _ h5 hin hzs hon ?_
                   intro w5 h6 o6 z6
                   have g6 := o6.holds g5 hna
                   have hBB6 : Below w.heap.size w w5 := Only.fresh hBB5 o6 (by have := HN.out; omega)
                   have hby6 : ∀ i, i < T → w5.cell? ⟨g, i, none⟩ = some (.int .u8 (oct (padB M i))) := fun i hi => (World.cell?_of_block (w := w4) (o6.block g hgw5 hga)).trans (hby5 i hi)
                   have hgw6 : g < w5.heap.size := Nat.lt_of_lt_of_le hgw5 o6.size
                   rw [← HCZ.out] at h6
                   have HBY6 : Hid (∀ i, i < T → w5.cell? ⟨g, i, none⟩ = some (.int .u8 (oct (padB M i)))) := hby6
                   clear h5 z6 g5 hBB5 hby5 hgw5 o6 hby6)
                | fail)
              go_roundw
              case rel =>
                refine ⟨q + 1, by omega, ?_, hBB6, g6, HBY6.out, hgw6, by rw [HX2.out]; exact h6⟩
                have := HA.out
                rw [show 136 * (q + 1) = A + 136 by omega]; rfl
              case measure => have := HA.out; have := HTQ.out; simp [intOf]; omega
        · have hqq : q = Q := by omega
          have hAT : ¬ (A : Int) < T := by have := HA.out; have := HTQ.out; omega
          subst hqq
          obtain ⟨Z, hZ⟩ : ∃ Z, Z = padS M q := ⟨_, rfl⟩
          rw [← hZ] at hh
          have HZZ : Hid (Z = padS M q) := hZ
          clear hZ hby
          go_wp2_with fail
          obtain ⟨o, ho⟩ : ∃ o, o = wr.heap.size := ⟨_, rfl⟩
          have hno : n < o := by rw [ho]; exact hg.lt
          have hao : a < o := by rw [ho]; exact hh.lt
          rw [← ho]
          have HO : Hid (o = wr.heap.size) := ho
          clear ho hgw
          go_loopw [8] (fun y w5 => ∃ k : Nat, k ≤ 32 ∧ y = .int .i64 k ∧ Below w.heap.size w w5 ∧ Holds w5 n 40 (bytesA 32 fun _ => 0) ∧ Holds w5 a 71 (lanesA Z) ∧ Holds w5 o 40 (bytesA 32 fun i => if i < k then byteAt Z i else 0)) (fun y _ => 32 - (intOf y).toNat)
          case atStart =>
            refine ⟨0, by omega, rfl, hB.alloc hB.size _, hg.alloc _, hh.alloc _, ?_⟩
            rw [HO.out]; exact (Holds.new wr 40 (bytesA 32 fun _ => 0)).congr (bytesA_congr fun i _ => by simp)
          case round =>
            clear hB hg hh
            obtain ⟨k, hk, rfl, hB, hg, hh, hr⟩ := hrel
            by_cases hlt : k < 32
            · have hk1 : (k : Int) < 32 := by omega
              have hck := hh.laneAt (k / 8) (by omega)
              have hrk := hr.byteCell k hlt
              have hf := hr.frozen
              have HR : Hid (Holds wr o 40 (bytesA 32 fun i => if i < k then byteAt Z i else 0)) := hr
              have hl0 := lane_nn (Z (k / 8))
              have hl1 := lane_lt (Z (k / 8))
              clear hr
              go_wp2
              go_roundw
              case rel =>
                rw [byteAt_mod]
                refine ⟨k + 1, by omega, rfl, hB.setCell (by have := HN.out; show _ ≤ o; omega) _, Holds.other hg _ _ (by show n ≠ o; omega), Holds.other hh _ _ (by show a ≠ o; omega), ?_⟩
                refine (Holds.byteSet HR.out k (byteAt Z k)).congr (bytesA_congr fun i _ => ?_)
                by_cases e : i = k
                · subst e; simp
                · by_cases c : i < k
                  · simp [e, c, show i < k + 1 by omega]
                  · simp [e, c, show ¬ i < k + 1 by omega]
              case measure => simp [intOf]; omega
            · have hk1 : ¬ (k : Int) < 32 := by omega
              have hkk : k = 32 := by omega
              subst hkk
              have hr2 : Holds wr o 40 (bytesA 32 (hashOf M)) := hr.congr (bytesA_congr fun i hi => by
                rw [if_pos hi, HZZ.out, HQ.out]
                exact byteAt_same (padS_end M) i hi)
              have hin : (Tryd.prog.info? 40).map (·.size) = some (bytesA 32 (hashOf M)).size := by rw [bytesA_size]; kernel_rfl
              have hzs : (bytesA 32 (fun _ => 0)).size = (bytesA 32 (hashOf M)).size := by rw [bytesA_size, bytesA_size]
              have hon := bytesA_one 32 (hashOf M)
              generalize hcz : bytesA 32 (hashOf M) = cz at hin hzs hon hr2
              have HCZ : Hid (bytesA 32 (hashOf M) = cz) := hcz
              clear hcz hr
              go_wp2_with (first
                | (refine wpList_loadH rfl 40 _ rfl o rfl 40 cz _ hr2 Tryd.underlying40 rfl hin ?_)
                | (refine wpList_storeH rfl 40 _ _ rfl n cz rfl rfl 40 _ hg hin hzs hon ?_
                   intro w6 h6 o6 z6))
              rw [← HCZ.out] at h6 hin
              rw [HM.out] at h6 hin
              exact bodyPost_ret (results_cellH rfl _ _ n 40 (bytesA 32 (hashOf x.data.toList)) _ rfl h6 Tryd.underlying40 rfl hin) rfl
                ⟨rfl, Only.fresh hB o6 (by have := HN.out; omega)⟩

end Go.Proofs.YtjdhdeffiigpbaaDoor.K
/-
  What the document's call of Text does.
-/
namespace Go.Proofs.YtjdhdeffiigpbaaDoor.K
open Go.RowKit

def headL (R : Nat → UInt8) (i : Nat) : List UInt8 := (List.range i).map R
theorem headL_succ (R : Nat → UInt8) (i : Nat) : octs (headL R (i + 1)) = octs (headL R i) ++ [.int .u8 (oct (R i))] := by
  unfold headL octs
  rw [List.range_succ]
  simp

set_option maxRecDepth 4000 in
set_option maxHeartbeats 4000000 in
theorem refText_any (R : Nat → UInt8) (w : World) :
    Calls Tryd.prog 34 #[.agg (bytesA 32 R)] w fun e w' => e = .returned (.string ⟨(headL R 32).toArray⟩) ∧ Below w.heap.size w w' := by
  obtain ⟨i8, hi, hiz, his, hib⟩ := infoU8i
  have HI : Hid (Tryd.prog.info? 5 = some i8 ∧ i8.zero = some (.int .u8 0) ∧ i8.size = 1 ∧ i8.bytes = 1) := ⟨hi, hiz, his, hib⟩
  clear hi hiz his hib
  obtain ⟨n, hn⟩ : ∃ n, n = w.heap.size := ⟨_, rfl⟩
  have HN : Hid (n = w.heap.size) := hn
  have hmax : (3000 : Nat) + 200 ≤ maxLen := by decide
  have hnew : Holds (w.alloc (.cells (bytesA 32 R) 40)) n 40 (bytesA 32 R) := by rw [hn]; exact Holds.new _ _ _
  have hsz := bytesA_size 32 R
  obtain ⟨rs, hrs⟩ : ∃ rs, rs = bytesA 32 R := ⟨_, rfl⟩
  rw [← hrs] at hnew hsz ⊢
  have HRS : Hid (rs = bytesA 32 R) := hrs
  clear hn hrs
  go_enter Tryd.func34, Tryd.ntmps34
  go_wp2_with fail
  rw [← HN.out]
  go_loopw [3, 4] (fun sv zv wr => ∃ (i : Nat) (v : Value), i ≤ 32 ∧ zv = .int .i64 i ∧ sv = v ∧ Below w.heap.size w wr ∧ Holds wr n 40 rs ∧ n + 1 ≤ wr.heap.size ∧ wr.ownsRow (n + 1) 5 1 v i (octs (headL R i))) (fun _ zv _ => 32 - (intOf zv).toNat)
  case atStart => exact ⟨0, _, by omega, rfl, rfl, (Below.refl _ _).alloc (Nat.le_refl _) _, hnew, by rw [World.size_alloc, HN.out]; exact Nat.le_refl _, World.ownsRow_nil _ _ _ _⟩
  case round =>
    clear hnew
    obtain ⟨i, v, hi, rfl, hv, hB, hh, hs, own⟩ := hrel
    have hv2 := hv.symm
    clear hv
    subst hv2
    by_cases hlt : i < 32
    · have hii : (i : Int) < 32 := by omega
      have hi0 : (0 : Int) ≤ i := by omega
      have hc : wr.cell? ⟨n, i, none⟩ = some (.int .u8 (oct (R i))) := by rw [hh.cell, HRS.out, bytesA_get 32 R i hlt]
      have OWN : Hid (wr.ownsRow (n + 1) 5 1 v i (octs (headL R i))) := own
      have HH : Hid (Holds wr n 40 rs) := hh
      clear own hh
      go_wp2_with (first
        | (refine wpList_append_own _ rfl _ _ 57 rfl (n + 1) 5 i8 (.int .u8 0) 1 1 underBytesR HI.out.1 HI.out.2.1 HI.out.2.2.1 HI.out.2.2.2 rfl (by omega) v i (octs (headL R i)) rfl (World.ownsRow.alloc OWN.out _) ⟨wr.heap.size, 0, none⟩ 1 1 [.int .u8 (oct (R i))] rfl rfl (one_news wr _) (by intro u hu; simp at hu; subst hu; rfl) (by omega) (by omega) (by rw [World.size_alloc]; omega) ?_
           intro v3 w3 own3 gr3 _
           rw [← headL_succ] at own3
           have hr : ∀ k, v.ownBlock = some k → n + 1 ≤ k := fun k hk => (OWN.out.lt k hk).1
           have hB3 : Below w.heap.size w w3 := Below.grownW (hB.alloc hB.size _) gr3 (Nat.le_trans hB.size (by simp)) (fun k hk => by have := hr k hk; have := HN.out; omega)
           have g3 : Holds w3 n 40 rs := Holds.grown (HH.out.alloc _) gr3 (fun q => by have := hr n q.symm; omega)
           have hs3 : n + 1 ≤ w3.heap.size := by have := gr3.size; rw [World.size_alloc] at this; omega
           clear gr3 hr hc)
        | fail)
      have HF : Hid (Below w.heap.size w w3 ∧ Holds w3 n 40 rs ∧ n + 1 ≤ w3.heap.size ∧ w3.ownsRow (n + 1) 5 1 v3 (i + 1) (octs (headL R (i + 1)))) := ⟨hB3, g3, hs3, own3⟩
      clear own3 hB3 g3 hs3
      go_roundw
      case rel => exact ⟨i + 1, v3, by omega, rfl, rfl, HF.out.1, HF.out.2.1, HF.out.2.2.1, HF.out.2.2.2⟩
      case measure => simp [intOf]; omega
    · have hii : ¬ (i : Int) < 32 := by omega
      have hik : i = 32 := by omega
      subst hik
      obtain ⟨g, cap, rfl, hgb, hgl⟩ := owned_slice own (by omega)
      have hl : (headL R 32).length = 32 := by simp [headL]
      have hcv := run_convert_bytes_back wr 57 9 5 ⟨g, 0, none⟩ cap (headL R 32) underBytesR (by kernel_rfl) (by kernel_rfl) (fun j hj => by
        rw [hl] at hj
        have hc := own.cellAt j (by omega)
        rw [octs_get _ j (by rw [hl]; exact hj)] at hc
        rw [show (⟨g, 0, none⟩ : Addr).add j = ⟨g, j, none⟩ by unfold Addr.add; split <;> simp_all, hc]
        rw [List.getD_eq_getElem?_getD, List.getElem?_eq_getElem (by rw [hl]; exact hj)]
        rfl)
      rw [hl] at hcv
      clear own
      go_wp2_with fail
      go_ret
      exact ⟨rfl, hB⟩
end Go.Proofs.YtjdhdeffiigpbaaDoor.K
