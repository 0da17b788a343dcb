/-
  What parts does: a set's containers with their upper parts, rising.
-/
import Derived.Test.YtbenfmhcpipehaaBLenW
import Derived.Shelf.SlSortCmp.WholeK
namespace Go.Proofs.Ytbenfmhcpipehaa
open Go Go.RowKit Go.Maps Go.Shelf

/-- A part's cells. -/
def encP (M : Nat → Bool) (u : Nat) : List Value := .int .i64 (u : Nat) :: (contA (atU M u)).toList
theorem encP_len (M : Nat → Bool) (u : Nat) : (encP M u).length = 33 := by simp [encP, contA_size]
theorem encP_one (M : Nat → Bool) (u : Nat) : ∀ v ∈ encP M u, v.oneCell' = true := by
  intro v hv
  rcases List.mem_cons.1 hv with rfl | h
  · rfl
  · exact Array.all_eq_true_iff_forall_mem.1 (contA_one _) v (by simpa using h)

theorem flat_get (f : Nat → List Value) (hf : ∀ u, (f u).length = 33) : ∀ (us : List Nat) (t : Nat), t < us.length * 33 → (us.flatMap f)[t]? = (f (us[t / 33]?.getD 0))[t % 33]?
  | [], t, h => by simp at h
  | u :: us, t, h => by
    rw [List.flatMap_cons]
    by_cases ht : t < 33
    · rw [List.getElem?_append_left (by rw [hf]; exact ht), Nat.div_eq_of_lt ht, Nat.mod_eq_of_lt ht]
      rfl
    · rw [List.getElem?_append_right (by rw [hf]; omega), hf, flat_get f hf us (t - 33) (by simp at h; omega)]
      have e1 : t / 33 = (t - 33) / 33 + 1 := by omega
      have e2 : t % 33 = (t - 33) % 33 := by omega
      rw [e1, e2, List.getElem?_cons_succ]
theorem flat_len (f : Nat → List Value) (hf : ∀ u, (f u).length = 33) : ∀ (us : List Nat), (us.flatMap f).length = us.length * 33
  | [] => rfl
  | u :: us => by rw [List.flatMap_cons, List.length_append, hf, flat_len f hf us, List.length_cons]; omega

theorem add_plain (b k j : Nat) : (⟨b, k, none⟩ : Addr).add j = ⟨b, k + j, none⟩ := by simp [Addr.add]
open Go.Sort in
theorem holdsK_of {w : World} {base g n cap : Nat} {M : Nat → Bool} {us : List Nat} (h : w.ownsRow base 92 33 (.slice (some ⟨g, 0, none⟩) n cap) n (us.flatMap (encP M))) (hn : us.length = n) : HoldsK (encP M) 33 w g 0 us.toArray := by
  intro t ht
  have ht' : t < us.length * 33 := by simpa using ht
  have hx := flat_get (encP M) (encP_len M) us t ht'
  have hlt : t / 33 < us.length := by omega
  have hget : us[t / 33]?.getD 0 = us.toArray[t / 33]! := by simp [hlt]
  have hm : t % 33 < (encP M us.toArray[t / 33]!).length := by rw [encP_len]; omega
  rw [hget, List.getElem?_eq_getElem hm] at hx
  have hf : (flatK (encP M) 33 us.toArray)[t]! = (encP M us.toArray[t / 33]!)[t % 33] := by
    rw [get_flatK _ _ _ _ (by simpa using ht'), getElem!_pos (encP M us.toArray[t / 33]!) (t % 33) hm]
  refine ⟨?_, ?_⟩
  · have := h.cells (g := g) rfl t _ hx
    rw [hf, Nat.zero_add]
    rw [add_plain, Nat.zero_add] at this
    exact this
  · rcases h.2 with ⟨hq, _⟩ | ⟨g2, cap2, cur, hq, _, hc, _⟩
    · cases hq
    · injection hq with hq _ _
      injection hq with hq
      injection hq with hq _ _
      subst hq
      simp [World.frozen?, hc]

/-- Parts in memory. -/
def PartsIn (w : World) (g : Nat) (M : Nat → Bool) (us : List Nat) : Prop := ∀ i, i < us.length → ∀ j v, (encP M (us[i]?.getD 0))[j]? = some v → w.cell? ⟨g, i * 33 + j, none⟩ = some v
open Go.Sort in
theorem partsIn_of {w : World} {g : Nat} {M : Nat → Bool} {us : List Nat} (h : HoldsK (encP M) 33 w g 0 us.toArray) : PartsIn w g M us := by
  intro i hi j v hv
  have hj : j < 33 := by
    have := (List.getElem?_eq_some_iff.1 hv).1
    rw [encP_len] at this
    exact this
  have ht : i * 33 + j < us.length * 33 := by
    have : (i + 1) * 33 ≤ us.length * 33 := Nat.mul_le_mul_right _ (by omega)
    omega
  have h1 := (h (i * 33 + j) (by simpa using ht)).1
  have e1 : (i * 33 + j) / 33 = i := by omega
  have e2 : (i * 33 + j) % 33 = j := by omega
  rw [get_flatK _ _ _ _ (by simpa using ht), e1, e2, Nat.zero_add] at h1
  rw [h1]
  have hget : us[i]?.getD 0 = us.toArray[i]! := by simp [hi]
  rw [hget] at hv
  have hm : j < (encP M us.toArray[i]!).length := (List.getElem?_eq_some_iff.1 hv).1
  rw [List.getElem?_eq_getElem hm] at hv
  injection hv with hv
  rw [id, getElem!_pos (encP M us.toArray[i]!) j hm, hv]
theorem PartsIn.keep {w w' : World} {g : Nat} {M : Nat → Bool} {us : List Nat} (h : PartsIn w g M us) (hb : w'.heap[g]? = w.heap[g]?) : PartsIn w' g M us := fun i hi j v hv =>
  (World.cell?_of_block (a := ⟨g, i * 33 + j, none⟩) hb).trans (h i hi j v hv)

/-- The upper parts from one on that have members, rising. -/
noncomputable def uppers (M : Nat → Bool) (f : Nat) : List Nat := (List.range NU).filter fun u => decide (f ≤ u) && liveB M u

/-- The world behind a sort. -/
theorem sorted_below {w W : World} {M : Nat → Bool} {g n : Nat} {d : Array Nat} {os : Array Obj} (hB : Below w.heap.size w W) (hg : w.heap.size ≤ g) : Below w.heap.size w (sortWorldK (encP M) 33 W g 0 n d os) := by
  refine ⟨hB.os, hB.tape, hB.output, ?_, fun k hk => ?_⟩
  · have := hB.size
    simp [sortWorldK, Go.Sort.putRowK]
    omega
  · unfold sortWorldK Go.Sort.grow Go.Sort.putRowK Go.Sort.putRow Go.Sort.mapBlock
    have := hB.size
    simp only [Go.Sort.heap_ahead]
    rw [Array.getElem?_append_left (by simp; omega), Array.getElem?_modify, if_neg (by omega)]
    exact hB.block k hk

open Go.Sort in
theorem parts1_any (u v : Nat) (c1 c2 : List Value) (W : World) : Calls Try.prog 70 #[.agg (.int .i64 (u : Nat) :: c1).toArray, .agg (.int .i64 (v : Nat) :: c2).toArray] W fun e w' => e = .returned (.int .i64 (Lib.compareInt (u : Int) (v : Int))) ∧ ∃ q os', w' = grow (W.drewN q) os' := by
  have hcon := Try.cmp_Compare_int (u : Int) (v : Int)
  generalize Lib.compareInt (u : Int) (v : Int) = r at hcon ⊢
  go_enter Try.func70, Try.ntmps70
  go_wp2_with (go_at_call 71; refine (hcon _).mono ?_; rintro e w' ⟨rfl, rfl⟩)
  go_ret
  exact ⟨rfl, 0, _, by rw [alloc_eq_grow, alloc_eq_grow, grow_grow]; rfl⟩

def cmpU (x y : Nat) : Int := Lib.compareInt (x : Int) (y : Int)
theorem ltU (x y : Nat) : ltOf cmpU x y = decide (x < y) := by
  unfold ltOf cmpU Lib.compareInt
  by_cases h1 : (x : Int) < y
  · simp [h1]
    omega
  · by_cases h2 : (y : Int) < x <;> simp [h1, h2] <;> omega
open Go.Sort in
theorem swoU : SWO (ltOf cmpU) where
  irrefl x := by rw [ltU]; simp
  trans x y z h1 h2 := by rw [ltU] at *; simp at *; omega
  ntrans x y z h1 h2 := by rw [ltU] at *; simp at *; omega
theorem cmpLaysU (M : Nat → Bool) (blk off size : Nat) (w : World) : CmpLays Try.prog 70 #[] (encP M) 33 cmpU blk off size w :=
  fun _ _ _ _ x y => parts1_any x y _ _ _
theorem sort_any {M : Nat → Bool} {blk cap : Nat} {us : List Nat} {w : World} (hH : Go.Sort.HoldsK (encP M) 33 w blk 0 us.toArray) (hblk : blk < w.heap.size) (hsz : us.length < 4611686018427387904) :
    Calls Try.prog 69 #[.slice (some ⟨blk, 0, none⟩) us.length cap, .func (.func 70) #[] #[]] w fun e w' => e = .returned (.tuple #[]) ∧ ∃ d' n os, Go.Sort.PermIn 0 us.length us.toArray d' ∧ Go.Sort.SortedIn (ltOf cmpU) 0 us.length d' ∧ w' = sortWorldK (encP M) 33 w blk 0 n d' os := by
  have eg : ∀ args w, (callFunc 70 args).run Try.prog w = .ok (.enter 70 args) w := enters_of Try.func70 (by kernel_rfl) rfl
  have hcon := AnyQ.slices_SortFunc Try.sortPart 33 Try.isAgg92 Try.sizeOf92 (encP M) (encP_len M) (encP_one M) cmpU swoU 70 #[] blk 0 cap us.toArray w eg (cmpLaysU M blk 0 _ w) hH hblk (by simpa using hsz)
  change Calls Try.prog 69 _ _ _ at hcon
  simpa using hcon
end Go.Proofs.Ytbenfmhcpipehaa
