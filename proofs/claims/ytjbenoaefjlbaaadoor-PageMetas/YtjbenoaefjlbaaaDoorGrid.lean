/-
  Lanes put in place column by column, as the document's permutation does. Plain; nothing of the program.
-/
import Derived.Test.YtjbenoaefjlbaaaDoorSpec
namespace Go.Proofs.YtjbenoaefjlbaaaDoor
open Go Go.RowKit

/-- Lane i is done when x columns and y lanes of the next one are. -/
def doneB (x y i : Nat) : Bool := decide (i % 5 < x) || (decide (i % 5 = x) && decide (i / 5 < y))
theorem done_none (i : Nat) : doneB 0 0 i = false := by simp [doneB]
theorem done_col (x i : Nat) (hi : i < 25) : doneB x 5 i = doneB (x + 1) 0 i := by
  have : i / 5 < 5 := by omega
  unfold doneB
  rw [Bool.eq_iff_iff]
  simp [this]
  omega
theorem done_all (i : Nat) : doneB 5 0 i = true := by
  have : i % 5 < 5 := Nat.mod_lt _ (by omega)
  simp [doneB, this]
theorem done_not (x y : Nat) (hx : x < 5) : doneB x y (x + 5 * y) = false := by
  have h1 : (x + 5 * y) % 5 = x := by omega
  have h2 : (x + 5 * y) / 5 = y := by omega
  simp [doneB, h1, h2]
theorem done_this (x y : Nat) (hx : x < 5) : doneB x (y + 1) (x + 5 * y) = true := by
  have h1 : (x + 5 * y) % 5 = x := by omega
  have h2 : (x + 5 * y) / 5 = y := by omega
  simp [doneB, h1, h2]
theorem done_other (x y i : Nat) (h : i ≠ x + 5 * y) : doneB x (y + 1) i = doneB x y i := by
  have hd := Nat.div_add_mod i 5
  unfold doneB
  rw [Bool.eq_iff_iff]
  simp
  constructor
  · rintro (q | ⟨q1, q2⟩)
    · exact .inl q
    · exact .inr ⟨q1, by omega⟩
  · rintro (q | ⟨q1, q2⟩)
    · exact .inl q
    · exact .inr ⟨q1, by omega⟩

theorem grid_step (F G : Nat → BitVec 64) (b : Nat) (t : TypeId) (w : World) (x y : Nat) (hx : x < 5) (hy : y < 5) (h : Holds w b t (lanesA (fun i => if doneB x y i then F i else G i))) (v : BitVec 64) (hv : v = F (x + 5 * y)) :
    Holds (w.setCell ⟨b, x + 5 * y, none⟩ (.int .u64 (lane v))) b t (lanesA (fun i => if doneB x (y + 1) i then F i else G i)) := by
  refine (h.laneSet (x + 5 * y) v (by omega)).congr (lanesA_congr fun i _ => ?_)
  by_cases e : i = x + 5 * y
  · subst e; rw [if_pos rfl, done_this x y hx, hv]; rfl
  · rw [if_neg e, done_other x y i e]

theorem tgt_xy : ∀ x, x < 5 → ∀ y, y < 5 → y + 5 * ((2 * x + 3 * y) % 5) = tgts (x + 5 * y) := by decide
theorem pi_step (s : Nat → BitVec 64) (G : Nat → BitVec 64) (b : Nat) (t : TypeId) (w : World) (x y : Nat) (hx : x < 5) (hy : y < 5) (h : Holds w b t (lanesA (fun j => if doneB x y (srcs j) then rhopi s j else G j))) :
    Holds (w.setCell ⟨b, y + 5 * ((2 * x + 3 * y) % 5), none⟩ (.int .u64 (lane (rotl (s (x + 5 * y)) (offs (x + 5 * y)))))) b t (lanesA (fun j => if doneB x (y + 1) (srcs j) then rhopi s j else G j)) := by
  rw [tgt_xy x hx y hy]
  have hi : x + 5 * y < 25 := by omega
  refine (h.laneSet (tgts (x + 5 * y)) _ (tgts_lt _ hi)).congr (lanesA_congr fun j hj => ?_)
  by_cases e : j = tgts (x + 5 * y)
  · subst e
    rw [if_pos rfl, srcs_tgts _ hi, done_this x y hx, if_pos rfl]
    unfold rhopi
    rw [srcs_tgts _ hi]
  · have h1 : srcs j ≠ x + 5 * y := fun q => e (by rw [← q, tgts_srcs j hj])
    rw [if_neg e, done_other x y _ h1]

theorem chi_xy (s : Nat → BitVec 64) (x y : Nat) (hx : x < 5) : s (x + 5 * y) ^^^ (~~~ s ((x + 1) % 5 + 5 * y) &&& s ((x + 2) % 5 + 5 * y)) = chi s (x + 5 * y) := by
  unfold chi
  rw [show 5 * ((x + 5 * y) / 5) + (x + 5 * y + 1) % 5 = (x + 1) % 5 + 5 * y by omega, show 5 * ((x + 5 * y) / 5) + (x + 5 * y + 2) % 5 = (x + 2) % 5 + 5 * y by omega]
theorem theta_xy (s : Nat → BitVec 64) (x y : Nat) (hx : x < 5) : s (x + 5 * y) ^^^ dif s x = theta s (x + 5 * y) := by
  unfold theta
  rw [show (x + 5 * y) % 5 = x by omega]

/-- Five lanes as cells. -/
def lanes5 (s : Nat → BitVec 64) : Array Value := Array.ofFn (n := 5) fun i => .int .u64 (lane (s i.val))
theorem lanes5_get (s : Nat → BitVec 64) (i : Nat) (h : i < 5) : (lanes5 s)[i]? = some (.int .u64 (lane (s i))) := by simp [lanes5, h]
theorem lanes5_congr {s s' : Nat → BitVec 64} (h : ∀ i, i < 5 → s i = s' i) : lanes5 s = lanes5 s' := by
  unfold lanes5
  congr 1
  funext i
  rw [h i.val i.isLt]
theorem lanes5_set (s : Nat → BitVec 64) (i : Nat) (v : BitVec 64) : (lanes5 s).setIfInBounds i (.int .u64 (lane v)) = lanes5 (fun j => if j = i then v else s j) := by
  apply Array.ext
  · simp [lanes5]
  · intro j h1 h2
    by_cases e : j = i
    · subst e; simp [lanes5]
    · rw [Array.getElem_setIfInBounds_ne (by simpa using h1) (fun q => e q.symm)]
      simp [lanes5, e]
theorem par_step (S : Nat → BitVec 64) (b : Nat) (t : TypeId) (w : World) (x : Nat) (h : Holds w b t (lanes5 (fun i => if i < x then par S i else 0))) :
    Holds (w.setCell ⟨b, x, none⟩ (.int .u64 (lane (par S x)))) b t (lanes5 (fun i => if i < x + 1 then par S i else 0)) := by
  refine ((h.set _ _).congr (lanes5_set _ _ _)).congr (lanes5_congr fun i _ => ?_)
  by_cases e : i = x
  · subst e; simp
  · by_cases c : i < x
    · simp [e, c, show i < x + 1 by omega]
    · simp [e, c, show ¬ i < x + 1 by omega]

end Go.Proofs.YtjbenoaefjlbaaaDoor
