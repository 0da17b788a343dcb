/-
  slices.Clone and slices.SortFunc of pairs; nibble.Less; what sorted tells.
-/
import Derived.Test.YtjdhdeffiigpbaaDoorTMem
import Derived.Test.YtjdhdeffiigpbaaDoorSortSh
import Derived.BigQuiet
import Derived.Lib.LazyBuf
import Derived.WalkSmall
namespace Go.Proofs.YtjdhdeffiigpbaaDoor
open Go Go.RowKit

open Go.Sort in
theorem swoP : SWO (ltOf cfP) where
  irrefl x := by rw [ltOf_cfP]; exact ltB_irrefl _
  trans x y z h1 h2 := by rw [ltOf_cfP] at *; exact ltB_trans h1 h2
  ntrans x y z h1 h2 := by
    rw [ltOf_cfP] at *
    have a : leP y x := h1
    have b : leP z y := h2
    exact leP_trans b a
theorem pcells_at (L : List Pr) (t : Nat) (ht : t < L.length * 2) : (pcells L)[t]? = some (encP L.toArray[t / 2]!)[t % 2]! := by
  have hlt : t / 2 < L.length := by omega
  have h := pcells_get L (t / 2) L[t / 2] (List.getElem?_eq_getElem hlt) (t % 2) (by omega)
  rw [show t / 2 * 2 + t % 2 = t by omega] at h
  have hget : L.toArray[t / 2]! = L[t / 2] := by simp [hlt]
  have hm : t % 2 < (encP L[t / 2]).length := by rw [encP_len]; omega
  rw [h, hget, List.getElem?_eq_getElem hm, getElem!_pos (encP L[t / 2]) (t % 2) hm]
open Go.Sort in
theorem holdsK_of {w : World} {base g cap : Nat} {L : List Pr} (h : OwnPairs w base (.slice (some ⟨g, 0, none⟩) L.length cap) L) : HoldsK encP 2 w g 0 L.toArray := by
  intro t ht
  have ht' : t < L.length * 2 := by simpa using ht
  have hf : (flatK encP 2 L.toArray)[t]! = (encP L.toArray[t / 2]!)[t % 2]! := get_flatK _ _ _ _ (by simpa using ht')
  refine ⟨?_, ?_⟩
  · have := World.ownsRow.cells h (g := g) rfl t _ (pcells_at L t ht')
    rw [add_plainT] at this
    rw [hf]
    exact this
  · rcases h.2 with ⟨hq, _⟩ | ⟨g2, cap2, cur, hq, _, hc, _⟩
    · cases hq
    · injection hq with hq _ _
      injection hq with hq
      injection hq with hq _ _
      subst hq
      simp [World.frozen?, hc]
open Go.Sort in
theorem pairsAt_of {w : World} {g cap : Nat} {L : List Pr} (h : HoldsK encP 2 w g 0 L.toArray) (hc : L.length ≤ cap) : PairsAt w (.slice (some ⟨g, 0, none⟩) L.length cap) L := by
  refine .inr ⟨g, 0, cap, rfl, hc, fun i x hx => ?_⟩
  have hi := (List.getElem?_eq_some_iff.1 hx).1
  have hget : L.toArray[i]! = x := by simp [hx]
  have key : ∀ j, j < 2 → w.cell? ⟨g, 0 + (i * 2 + j), none⟩ = some (encP x)[j]! := fun j hj => by
    have := (h (i * 2 + j) (by simp; omega)).1
    rw [get_flatK _ _ _ _ (by simp; omega), show (i * 2 + j) / 2 = i by omega, show (i * 2 + j) % 2 = j by omega, hget] at this
    exact this
  exact ⟨key 0 (by omega), key 1 (by omega)⟩
open Go.Sort in
theorem holdsK_sorted {W : World} {g n : Nat} {L : List Pr} {d : Array Pr} {os : Array Obj} (h : HoldsK encP 2 W g 0 L.toArray) (hg : g < W.heap.size) (hd : d.size = L.length) : HoldsK encP 2 (sortWorldK encP 2 W g 0 n d os) g 0 d := by
  intro t ht
  have h1 := holds_putRow id (Go.Sort.ahead W n) g 0 (flatK encP 2 L.toArray) (flatK encP 2 d) h (by simp [hd]) t (by simpa using ht)
  have hb : (sortWorldK encP 2 W g 0 n d os).heap[g]? = (putRow id (Go.Sort.ahead W n) g 0 (flatK encP 2 d)).heap[g]? := by
    unfold sortWorldK grow putRowK
    exact Array.getElem?_append_left (by simpa using hg)
  exact ⟨(World.cell?_of_block (a := ⟨g, 0 + t, none⟩) hb).trans h1.1, (World.frozen?_of_block (a := ⟨g, 0 + t, none⟩) hb).trans h1.2⟩
open Go.Sort in
theorem sorted_below {w W : World} {g n : Nat} {d : Array Pr} {os : Array Obj} (hB : Below w.heap.size w W) (hg : w.heap.size ≤ g) : Below w.heap.size w (sortWorldK encP 2 W g 0 n d os) := by
  refine ⟨hB.os, hB.tape, hB.output, ?_, fun k hk => ?_⟩
  · have := hB.size
    simp [sortWorldK, Go.Sort.putRowK]
    omega
  · unfold sortWorldK grow putRowK putRow mapBlock
    have := hB.size
    simp only [heap_ahead]
    rw [Array.getElem?_append_left (by simp; omega), Array.getElem?_modify, if_neg (by omega)]
    exact hB.block k hk
open Go.Sort in
theorem sort_any {w0 w : World} {g cap : Nat} {L : List Pr} (h : OwnPairs w w0.heap.size (.slice (some ⟨g, 0, none⟩) L.length cap) L) (hcap : L.length ≤ cap) (hB : Below w0.heap.size w0 w) (hl : L.length ≤ 1000000000) :
    Calls Tryd.prog 57 #[.slice (some ⟨g, 0, none⟩) L.length cap, .func (.func 58) #[] #[]] w fun e w' => e = .returned (.tuple #[]) ∧ ∃ L', L.Perm L' ∧ L'.Pairwise leP ∧ PairsAt w' (.slice (some ⟨g, 0, none⟩) L.length cap) L' ∧ Below w0.heap.size w0 w' := by
  have eg : ∀ args w, (callFunc 58 args).run Tryd.prog w = .ok (.enter 58 args) w := enters_of Tryd.func58 (by kernel_rfl) rfl
  have hH := holdsK_of h
  have hlt := h.lt g rfl
  have hcon := AnyQ.slices_SortFunc Tryd.sortPart 2 Tryd.isAgg33 Tryd.sizeOf33 encP encP_len encP_one cfP swoP 58 #[] g 0 cap L.toArray w eg (cmpLays g 0 _ w) hH hlt.2 (by simp; omega)
  change Calls Tryd.prog 57 _ _ _ at hcon
  rw [show L.toArray.size = L.length by simp] at hcon
  refine hcon.mono ?_
  rintro e w' ⟨he, d', n, os, hp, hs, rfl⟩
  have hz : d'.size = L.length := by simpa using hp.1
  have hperm : L.Perm d'.toList := by
    have := hp.2.2
    have e1 : d'.extract 0 L.length = d' := by rw [← hz]; simp
    rw [e1] at this
    simpa using this.symm
  refine ⟨he, d'.toList, hperm, ?_, ?_, sorted_below hB hlt.1⟩
  · rw [List.pairwise_iff_getElem]
    intro i j hi hj hij
    have hs' := hs i j (Nat.zero_le _) hij (by simpa [hz] using hj)
    rw [ltOf_cfP] at hs'
    have hi' : i < d'.size := by simpa using hi
    have hj' : j < d'.size := by simpa using hj
    rw [getElem!_pos d' i hi', getElem!_pos d' j hj'] at hs'
    unfold leP
    simpa using hs'
  · have hH' := holdsK_sorted (n := n) (os := os) hH hlt.2 hz
    have := pairsAt_of (L := d'.toList) (cap := cap) (by simpa using hH') (by simp; omega)
    rw [show d'.toList.length = L.length by simp [hz]] at this
    exact this
theorem sort_none (p : Option Addr) (c : Nat) (W : World) : Calls Tryd.prog 57 #[.slice p 0 c, .func (.func 58) #[] #[]] W fun e w' => e = .returned (.tuple #[]) ∧ w' = W := AnyF.slices_SortFunc_none Tryd.sortPart p c _ W
theorem below_grownT {w0 w w' : World} {v : Value} (h : Below w0.heap.size w0 w) (g : w.grownBy w' v.ownBlock) (hv : ∀ k, v.ownBlock = some k → w0.heap.size ≤ k) : Below w0.heap.size w0 w' :=
  ⟨g.os.trans h.os, g.tape.trans h.tape, g.output.trans h.output, Nat.le_trans h.size g.size, fun k hk => (g.block k (Nat.lt_of_lt_of_le hk h.size) (fun e => by have := hv k e.symm; omega)).trans (h.block k hk)⟩
theorem eql_none (n c : Nat) (w : World) : (binOp .eql 30 (.slice none n c) (.slice none 0 0)).run Tryd.prog w = .ok (.bool true) w := run_eql_slice_nil w 30 33 none n c underPairs
theorem eql_some (ad : Addr) (n c : Nat) (w : World) : (binOp .eql 30 (.slice (some ad) n c) (.slice none 0 0)).run Tryd.prog w = .ok (.bool false) w := run_eql_slice_nil w 30 33 (some ad) n c underPairs
set_option maxRecDepth 8000 in
theorem clone_any (v : Value) (L : List Pr) (w : World) (h : PairsAt w v L) (hl : L.length ≤ 1000000000) :
    Calls Tryd.prog 56 #[v] w fun e w' => ∃ v', e = .returned v' ∧ OwnPairs w' w.heap.size v' L ∧ Below w.heap.size w w' := by
  have hown : OwnPairs (w.alloc (.cells #[] 33)) w.heap.size (.slice (some ⟨w.heap.size, 0, none⟩) 0 0) [] := World.ownsRow_made (w := w) (base := w.heap.size) (e := 33) (size := 2) #[] 0 (Nat.le_refl _) (by decide) rfl
  have hB0 : Below w.heap.size w (w.alloc (.cells #[] 33)) := (Below.refl _ _).alloc (Nat.le_refl _) _
  have hp := h.below hB0
  have q1 := eql_none
  have q2 := eql_some
  have hdone : ∀ (v' : Value) (w1 : World), OwnPairs w1 w.heap.size v' ([] ++ L) → (w.alloc (.cells #[] 33)).grownBy w1 (Value.slice (some ⟨w.heap.size, 0, none⟩) 0 0).ownBlock → Below w.heap.size w w1 := fun v' w1 _ hg => below_grownT hB0 hg fun k hk => by simp [Value.ownBlock] at hk; omega
  rcases h with ⟨rfl, p, c, rfl⟩ | ⟨b, o, c, rfl, h2, h3⟩
  · cases p with
    | none =>
      go_enter Tryd.func56, Tryd.ntmps56
      go_wp2_with fail
      go_ret
      exact ⟨_, rfl, OwnPairs.nil _ _, Below.refl _ _⟩
    | some ad =>
      go_enter Tryd.func56, Tryd.ntmps56
      go_wp2_with (at_builtin; refine wpList_append_pr rfl _ _ rfl rfl rfl hown hp (by simp) (by rw [World.size_alloc]; omega) ?_; intro v' w1 h1 h2)
      go_ret
      exact ⟨_, rfl, h1, hdone _ _ h1 h2⟩
  · go_enter Tryd.func56, Tryd.ntmps56
    go_wp2_with (at_builtin; refine wpList_append_pr rfl _ _ rfl rfl rfl hown hp (by simpa using hl) (by rw [World.size_alloc]; omega) ?_; intro v' w1 h1 h2)
    go_ret
    exact ⟨_, rfl, h1, hdone _ _ h1 h2⟩
end Go.Proofs.YtjdhdeffiigpbaaDoor
