/-
  What alikeAhead does.
-/
import Derived.Test.YtjdhdeffiigpbaaDoorTHavW
import Derived.Test.YtjdhdeffiigpbaaDoorSharesBase
namespace Go.Proofs.YtjdhdeffiigpbaaDoor
open Go Go.RowKit Go.BigFrame Nb

theorem alike_ends {m d : Nat} {a b : Pr} {l : List Pr} (hr : Rise (a :: l)) (hm : May m (a :: l)) (hb : (a :: l).getLast? = some b) (hd : d ≤ m) : (kb a).take d = (kb b).take d ↔ Alike d (a :: l) := by
  have hbm : b ∈ a :: l := List.mem_of_getLast? hb
  constructor
  · intro h
    have key : ∀ x ∈ a :: l, (kb x).take d = (kb a).take d := by
      intro x hx
      refine mid_take _ _ _ (kb b) ?_ ?_ h (by rw [hm.len a List.mem_cons_self]; exact hd) (by rw [hm.len x hx]; exact hd)
      · rcases List.mem_cons.1 hx with rfl | hx
        · exact ltB_irrefl _
        · exact ltB_asymm ((List.pairwise_cons.1 hr).1 x hx)
      · obtain ⟨ys, hys⟩ := List.getLast?_eq_some_iff.1 hb
        rw [hys] at hx
        rcases List.mem_append.1 hx with hx | hx
        · unfold Rise at hr
          rw [hys] at hr
          exact ltB_asymm ((List.pairwise_append.1 hr).2.2 x hx b List.mem_cons_self)
        · rw [List.mem_singleton.1 hx]; exact ltB_irrefl _
    exact fun x hx y hy => (key x hx).trans (key y hy).symm
  · exact fun h => h a List.mem_cons_self b hbm
def alikeR (d : Int) (m : Nat) (L : List Pr) : Prop := L ≠ [] ∧ 0 ≤ d ∧ d ≤ m ∧ Alike d.toNat L
def AlkPost (w : World) (d : Int) (m : Nat) (L : List Pr) (e : Ending) (w' : World) : Prop := ∃ r, e = .returned (.bool r) ∧ (r = true ↔ alikeR d m L) ∧ Below w.heap.size w w'
set_option maxRecDepth 8000 in
set_option maxHeartbeats 2000000 in
theorem alike_any (d : Int) (v : Value) (L : List Pr) (m : Nat) (w : World) (h : PairsAt w v L) (hl : L.length ≤ 1000000) (hm : May m L) (hr : Rise L) :
    Calls Tryd.prog 37 #[.int .i64 d, v] w (AlkPost w d m L) := by
  rcases h with ⟨rfl, p, c, rfl⟩ | ⟨b, o, c, rfl, h2, h3⟩
  · go_enter Tryd.func37, Tryd.ntmps37
    go_wp2_with fail
    go_ret
    exact ⟨false, rfl, ⟨(fun e => by cases e), fun e => absurd rfl e.1⟩, Below.refl _ _⟩
  obtain ⟨n, hn⟩ : ∃ n, L.length = n := ⟨_, rfl⟩
  match L, hm, hr, h3, hn, hl with
  | [], hm, hr, h3, hn, hl =>
    have hn0 : n = 0 := hn.symm
    subst hn0
    go_enter Tryd.func37, Tryd.ntmps37
    go_wp2_with fail
    go_ret
    exact ⟨false, rfl, ⟨(fun e => by cases e), fun e => absurd rfl e.1⟩, Below.refl _ _⟩
  | a :: l, hm, hr, h3, hn, hl =>
    rw [hn]
    obtain ⟨z, hz⟩ : ∃ z, (a :: l).getLast? = some z := ⟨_, List.getLast?_eq_some_getLast (by simp)⟩
    have hzl : (a :: l)[n - 1]? = some z := by rw [← hz, List.getLast?_eq_getElem?, hn]
    have ha1 := hm.len a List.mem_cons_self
    have hz1 := hm.len z (List.mem_of_getLast? hz)
    have hends := fun e he => alike_ends (d := e) hr hm hz he
    have hn1' : 1 ≤ n := by rw [← hn]; simp
    have ca := (h3 0 a rfl).1
    have cz := (h3 (n - 1) z hzl).1
    rw [Nat.zero_mul, Nat.add_zero] at ca
    obtain ⟨x, a2⟩ := a
    obtain ⟨y, z2⟩ := z
    dsimp only at ca cz
    have hxm : x.size = m := ha1
    have hym : y.size = m := hz1
    have hni : ¬ (n : Int) = 0 := by omega
    have hn0 : (0 : Int) < n := by omega
    have hnl : n ≤ 1000000 := by rw [← hn]; exact hl
    have HE : Hid (∀ e, e ≤ m → ((kb (x, a2)).take e = (kb (y, z2)).take e ↔ Alike e ((x, a2) :: l))) := hends
    have HNE : Hid ((x, a2) :: l ≠ []) := by simp [Hid]
    clear hm hr h3 hn hl hz hzl ha1 hz1 hends h2
    by_cases hd0 : d < 0
    · go_enter Tryd.func37, Tryd.ntmps37
      go_wp2_with fail
      go_ret
      exact ⟨false, rfl, ⟨(fun e => by cases e), fun e => by have := e.2.1; omega⟩, Below.refl _ _⟩
    by_cases hdm : d > x.size
    · go_enter Tryd.func37, Tryd.ntmps37
      go_wp2_with fail
      go_ret
      exact ⟨false, rfl, ⟨(fun e => by cases e), fun e => by have := e.2.2.1; omega⟩, Below.refl _ _⟩
    obtain ⟨k, rfl⟩ : ∃ k : Nat, d = k := ⟨d.toNat, by omega⟩
    have hkm : k ≤ m := by omega
    have hkm2 : ¬ m < k := by omega
    have S1 : ∀ W : World, (Instr.sliceAt 9 (.string x) none (some (.int .i64 (k : Int))) none).run Tryd.prog W = .ok (.string (x.extract 0 k)) W := fun W => slice_to x k (by omega) W
    have S2 : ∀ W : World, (Instr.sliceAt 9 (.string y) none (some (.int .i64 (k : Int))) none).run Tryd.prog W = .ok (.string (y.extract 0 k)) W := fun W => slice_to y k (by omega) W
    have HR : Hid (((x.extract 0 k).toList == (y.extract 0 k).toList) = true ↔ alikeR k m ((x, a2) :: l)) := by
      show _ ↔ _
      rw [beq_iff_eq, lb, lb, extract_take, extract_take]
      show x.data.toList.take k = y.data.toList.take k ↔ _
      have hq := HE.out k hkm
      exact ⟨fun q => ⟨HNE.out, by omega, by omega, by rw [Int.toNat_natCast]; exact hq.1 q⟩, fun q => hq.2 (by have := q.2.2.2; rwa [Int.toNat_natCast] at this)⟩
    obtain ⟨X, hX⟩ : ∃ X, x.extract 0 k = X := ⟨_, rfl⟩
    obtain ⟨Y, hY⟩ : ∃ Y, y.extract 0 k = Y := ⟨_, rfl⟩
    rw [hX] at S1 HR
    rw [hY] at S2 HR
    have C1 : w.drew.cell? ⟨b, o, none⟩ = some (.string x) := ca
    have C2 : w.drew.cell? ⟨b, o + (n - 1) * 2, none⟩ = some (.string y) := cz
    have hn1 : (n : Int) - 1 = ((n - 1 : Nat) : Int) := by omega
    have hn2 : IntKind.i64.wrap ((n - 1 : Nat) : Int) = ((n - 1 : Nat) : Int) := by rw [IntKind.wrap_i64]; omega
    have hn3 : ((n - 1 : Nat) : Int) < n := by omega
    clear hX hY cz hdm
    go_enter Tryd.func37, Tryd.ntmps37
    go_wp2_with fail
    refine wp_region_all (fun w' => w' = w.drew) mixedP (by kernel_rfl) rfl ?_
    refine cq_val rfl (.slice (some ⟨b, o, none⟩) n c) (fun w5 h5 => by go_simp) ?_
    go_frame
    refine cq_val rfl (.pointer (some ⟨b, o, none⟩)) (fun w5 h5 => by have e := hn0; go_simp) ?_
    go_frame
    refine cq_val rfl (.pointer (some ⟨b, o, none⟩)) (fun w5 h5 => by go_simp) ?_
    go_frame
    refine cq_val rfl (.string x) (fun w5 h5 => by have q := C1; subst h5; go_simp) ?_
    go_frame
    go_big_quiet_step (fail)
    refine cq_val rfl (.string X) (fun w5 h5 => by have q := S1; subst h5; go_simp) ?_
    go_frame
    go_big_quiet_step (fail)
    go_big_quiet_step (fail)
    refine cq_val rfl (.int .i64 (n : Nat)) (fun w5 h5 => by go_simp) ?_
    go_frame
    refine cq_val rfl (.int .i64 ((n - 1 : Nat) : Int)) (fun w5 h5 => by have e := hn1; go_simp) ?_
    go_frame
    refine cq_val rfl (.pointer (some ⟨b, o + (n - 1) * 2, none⟩)) (fun w5 h5 => by have e := hn3; go_simp) ?_
    go_frame
    refine cq_val rfl (.pointer (some ⟨b, o + (n - 1) * 2, none⟩)) (fun w5 h5 => by go_simp) ?_
    go_frame
    refine cq_val rfl (.string y) (fun w5 h5 => by have q := C2; subst h5; go_simp) ?_
    go_frame
    go_big_quiet_step (fail)
    refine cq_val rfl (.string Y) (fun w5 h5 => by have q := S2; subst h5; go_simp) ?_
    go_frame
    refine cq_val rfl (.bool (X.toList == Y.toList)) (fun w5 h5 => by go_simp) ?_
    go_frame
    go_big_quiet_step (fail)
    refine wpQuiet_nil ?_
    rintro w6 rfl
    simp only [Exit.then]
    go_at_K
    go_wp2_with fail
    go_ret
    exact ⟨_, rfl, HR.out, (Below.refl _ _).drew⟩
end Go.Proofs.YtjdhdeffiigpbaaDoor
