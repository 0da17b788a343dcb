/-
  Bytes in memory, lanes made of bytes, and what a block does to a state. Plain; nothing of the program.
-/
import Derived.Test.YtjbenoaefjlbaaaDoorSpec
namespace Go.Proofs.YtjbenoaefjlbaaaDoor
open Go Go.RowKit

/-- A byte as the model's number. -/
def oct (c : UInt8) : Int := (c.toNat : Int)
theorem oct_nn (c : UInt8) : 0 ≤ oct c := by unfold oct; omega
theorem oct_le (c : UInt8) : oct c ≤ 255 := by unfold oct; have := c.toNat_lt; omega
/-- A byte as a lane. -/
def wide (c : UInt8) : BitVec 64 := BitVec.ofNat 64 c.toNat
theorem oct_wide (c : UInt8) : oct c = lane (wide c) := by
  unfold oct wide lane
  have := c.toNat_lt
  rw [BitVec.toNat_ofNat, Nat.mod_eq_of_lt (by omega)]
theorem oct_inj {c d : UInt8} (h : oct c = oct d) : c = d := by
  unfold oct at h; exact UInt8.toNat_inj.1 (by omega)

/-- The first j bytes of lane i, put together. -/
def laneUp (B : Nat → UInt8) (i : Nat) : Nat → BitVec 64
  | 0 => 0
  | j + 1 => laneUp B i j ||| wide (B (8 * i + j)) <<< (8 * j)
/-- The first k lanes of a block go into the state. -/
def mixUp (s : Nat → BitVec 64) (B : Nat → UInt8) (k : Nat) : Nat → BitVec 64 := fun i => if i < k then s i ^^^ laneUp B i 8 else s i
/-- One more block. -/
def soak (s : Nat → BitVec 64) (B : Nat → UInt8) : Nat → BitVec 64 := perm (mixUp s B 17)
/-- A byte of a state. -/
def byteAt (s : Nat → BitVec 64) (i : Nat) : UInt8 := UInt8.ofBitVec ((s (i / 8) >>> (8 * (i % 8))).setWidth 8)

/-- n bytes as cells. -/
def bytesA (n : Nat) (B : Nat → UInt8) : Array Value := Array.ofFn (n := n) fun i => .int .u8 (oct (B i.val))
theorem bytesA_size (n : Nat) (B : Nat → UInt8) : (bytesA n B).size = n := by simp [bytesA]
theorem bytesA_get (n : Nat) (B : Nat → UInt8) (i : Nat) (h : i < n) : (bytesA n B)[i]? = some (.int .u8 (oct (B i))) := by
  simp [bytesA, h]
theorem bytesA_congr {n : Nat} {B C : Nat → UInt8} (h : ∀ i, i < n → B i = C i) : bytesA n B = bytesA n C := by
  unfold bytesA
  congr 1
  funext i
  rw [h i.val i.isLt]
theorem bytesA_set (n : Nat) (B : Nat → UInt8) (i : Nat) (v : UInt8) : (bytesA n B).setIfInBounds i (.int .u8 (oct v)) = bytesA n (fun j => if j = i then v else B j) := by
  apply Array.ext
  · simp [bytesA]
  · intro j h1 h2
    by_cases e : j = i
    · subst e; simp [bytesA]
    · rw [Array.getElem_setIfInBounds_ne (by simpa using h1) (fun q => e q.symm)]
      simp [bytesA, e]
theorem bytesA_one (n : Nat) (B : Nat → UInt8) : (bytesA n B).all (·.oneCell') = true := by
  refine Array.all_eq_true_iff_forall_mem.2 fun v hv => ?_
  obtain ⟨i, rfl⟩ := Array.mem_ofFn.1 hv
  rfl
theorem Holds.byteCell {w : World} {b : Nat} {t : TypeId} {n : Nat} {B : Nat → UInt8} (h : Holds w b t (bytesA n B)) (i : Nat) (hi : i < n) : w.cell? ⟨b, i, none⟩ = some (.int .u8 (oct (B i))) := by
  rw [h.cell, bytesA_get n B i hi]
theorem Holds.byteSet {w : World} {b : Nat} {t : TypeId} {n : Nat} {B : Nat → UInt8} (h : Holds w b t (bytesA n B)) (i : Nat) (v : UInt8) :
    Holds (w.setCell ⟨b, i, none⟩ (.int .u8 (oct v))) b t (bytesA n (fun j => if j = i then v else B j)) :=
  (h.set i _).congr (bytesA_set n B i v)

theorem mixUp_step (s : Nat → BitVec 64) (B : Nat → UInt8) (b : Nat) (t : TypeId) (k : Nat) (w : World) (hk : k < 25) (h : Holds w b t (lanesA (mixUp s B k))) :
    Holds (w.setCell ⟨b, k, none⟩ (.int .u64 (lane (s k ^^^ laneUp B k 8)))) b t (lanesA (mixUp s B (k + 1))) := by
  refine (h.laneSet k _ hk).congr (lanesA_congr fun i _ => ?_)
  unfold mixUp
  by_cases e : i = k
  · subst e; simp
  · by_cases c : i < k
    · simp [e, c, show i < k + 1 by omega]
    · simp [e, c, show ¬ i < k + 1 by omega]

/-- A byte of a lane, as the program takes it. -/
theorem byteAt_oct (s : Nat → BitVec 64) (i : Nat) : IntKind.u8.wrap (lane (s (i / 8) >>> (8 * (i % 8)))) = oct (byteAt s i) := by
  unfold byteAt oct lane
  rw [show (UInt8.ofBitVec ((s (i / 8) >>> (8 * (i % 8))).setWidth 8)).toNat = ((s (i / 8) >>> (8 * (i % 8))).setWidth 8).toNat from rfl, BitVec.toNat_setWidth]
  simp [IntKind.wrap, IntKind.bits, IntKind.signed]

theorem byteAt_mod (s : Nat → BitVec 64) (i : Nat) : lane (s (i / 8)) / 2 ^ (8 * (i % 8)) % 256 = oct (byteAt s i) := by
  rw [lane_shr, ← byteAt_oct]
  simp [IntKind.wrap, IntKind.bits, IntKind.signed]

end Go.Proofs.YtjbenoaefjlbaaaDoor
