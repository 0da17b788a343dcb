/-
  What the program's call of Used does.
-/
import Derived.Test.YtonmjkalkkfhhaaDUsedW
import Derived.Maps.RangeWalk
namespace Go.Proofs.Ytonmjkalkkfhhaa
open Go Go.RowKit Go.Maps

/-- Of what is not to come any more. -/
structure UsedD (M : Int → Option Pg) (lf : Int → Bool) (n : Int) : Prop where
  all : ∀ u x, M u = some x → lf u = false → u < n
  low : 0 ≤ n
  high : n ≤ 65536
  one : n = 0 ∨ ∃ x, M (n - 1) = some x
theorem UsedD.step {M : Int → Option Pg} {lf : Int → Bool} {n u : Int} (h : UsedD M lf n) (hu : (M u).isSome = true) (hk : 0 ≤ u ∧ u < 65536) : UsedD M (fun x => lf x && !decide (x = u)) (max n (u + 1)) := by
  have hl := h.low
  have hh := h.high
  refine ⟨fun v x hv hf => ?_, by omega, by omega, ?_⟩
  · by_cases e : v = u
    · omega
    · have := h.all v x hv (by simpa [e] using hf)
      omega
  · by_cases e : n ≤ u + 1
    · rw [show max n (u + 1) - 1 = u by omega]
      exact .inr (Option.isSome_iff_exists.1 hu)
    · rw [show max n (u + 1) = n by omega]
      exact h.one
set_option maxRecDepth 8000 in
set_option maxHeartbeats 2000000 in
theorem used_any {w : World} {h : Hd} {D : Dev} (a : DiskAt w h D) (hkeys : ∀ u x, D.pages u = some x → 0 ≤ u ∧ u < 65536) :
    Calls Try.prog 33 #[.pointer (some ⟨h.b, 0, none⟩)] w fun e w' => ∃ n, e = .returned (.int .i64 n) ∧ UsedIs D.pages n ∧ Below w.heap.size w w' := by
  have hq := ptr_eql
  have c1 : w.cell? ⟨h.b, 1, none⟩ = some (.map h.po) := a.ptr.cell 1
  have hmp := a.pages
  go_enter Try.func33, Try.ntmps33
  go_wp2_with (first
    | (at_range; refine wpList_rangeD rfl _ rfl rfl hmp ?_; intro w0 cnt0 hrg0 hB0)
    | go_in)
  go_frame
  go_loopw [3, 4] (fun y _ wr => ∃ (t : Int) (lf : Int → Bool) (ct : Nat), y = .int .i64 t ∧ RangD wr w.heap.size D.pages lf ct h.po ∧ UsedD D.pages lf t ∧ Below w.heap.size w wr) (fun _ _ wr => leftD wr w.heap.size h.po)
  case atStart => exact ⟨0, _, _, rfl, hrg0, ⟨fun u x hx hf => (by rw [hx] at hf; cases hf), by omega, by omega, .inl rfl⟩, hB0⟩
  case round =>
    obtain ⟨t, lf, ct, rfl, hrg, hU, hB⟩ := hrel
    have HU : Hid (UsedD D.pages lf t) := hU
    have ht0 := hU.low
    have ht1 := hU.high
    clear hU
    go_wp2_with (first
      | (at_next; refine wpList_nextD rfl _ rfl rfl hrg ?_ ?_)
      | go_in)
    · intro hl0
      go_wp2_with fail
      go_ret
      exact ⟨t, rfl, ⟨fun u x hx => HU.out.all u x hx (hl0 u), HU.out.low, HU.out.one⟩, hB⟩
    · intro u w2 ct2 v hlv hlf hrg2 hlt hO hen
      have hk : 0 ≤ u ∧ u < 65536 := by
        obtain ⟨x, hx⟩ := Option.isSome_iff_exists.1 hlv
        exact hkeys u x hx
      have HN : Hid (UsedD D.pages (fun x => lf x && !decide (x = u)) (max t (u + 1))) := HU.out.step hlv hk
      have hBn : Below w.heap.size w w2 := Only.fresh hB hO (Nat.le_refl _)
      clear hlv hlf
      obtain ⟨hk0, hk1⟩ := hk
      by_cases hm : t < u + 1
      · have hmx : max t (u + 1) = u + 1 := by omega
        rw [hmx] at HN
        clear hmx
        go_wp2_with fail
        go_roundw
        case rel => exact ⟨u + 1, _, _, by go_num, hrg2, HN.out, hBn⟩
        case measure => rw [hrg2.left, hrg.left]; exact hlt
      · have hmx : max t (u + 1) = t := by omega
        rw [hmx] at HN
        clear hmx
        go_wp2_with fail
        go_roundw
        case rel => exact ⟨t, _, _, by go_num, hrg2, HN.out, hBn⟩
        case measure => rw [hrg2.left, hrg.left]; exact hlt
end Go.Proofs.Ytonmjkalkkfhhaa
