/-
  What New does.
-/
import Derived.Test.YtiokbhbggpibpaaBSetW
namespace Go.Proofs.Ytiokbhbggpibpaa
open Go Go.RowKit Go.Maps

theorem getD_at {l : List Int} {k : Nat} (h : k < l.length) : l.getD k 0 = l[k] := by
  rw [List.getD_eq_getElem?_getD, List.getElem?_eq_getElem h]; rfl

set_option maxRecDepth 8000 in
theorem new_any {w : World} {v : Value} {l : List Int} (hv : IntsAt w v l) (hr : ∀ x ∈ l, x ≤ 9223372036854775807) (hl : l.length ≤ 1000000) :
    Calls Try.prog 13 #[v] w fun e w' => ∃ b, e = .returned (.pointer (some ⟨b, 0, none⟩)) ∧ ∃ mo, SetAt w' b mo (ofInts l) ∧ w.heap.size ≤ b ∧ (∀ m, mo = some m → w.heap.size ≤ m) ∧ Below w.heap.size w w' := by
  have h0 : SetAt (w.alloc (.cells #[.map none] 62)) w.heap.size none (ofInts []) := ⟨Holds.new _ _ _, fun n => by rw [ofInts_nil]⟩
  have hB0 := below_new1 w (.cells #[.map none] 62)
  obtain ⟨W0, hW⟩ : ∃ W0, World.alloc w (.cells #[.map none] 62) = W0 := ⟨_, rfl⟩
  rw [hW] at h0 hB0
  rcases hv with ⟨rfl, p, c, rfl⟩ | ⟨b, o, c, rfl, hc⟩
  · go_enter Try.func13, Try.ntmps13
    go_wp2_with fail
    go_loopw [5, 10] (fun _ y wr => y = .int .i64 0 ∧ wr = W0) (fun _ _ _ => 0)
    case atStart => exact ⟨rfl, rfl⟩
    case round =>
      obtain ⟨rfl, rfl⟩ := hrel
      go_wp2_with fail
      go_ret
      exact ⟨_, rfl, _, h0, Nat.le_refl _, by simp, hB0⟩
  · have HC : Hid (∀ wr, Below w.heap.size w wr → ∀ i, i < l.length → wr.cell? ⟨b, o + i, none⟩ = some (.int .i64 (l.getD i 0))) := fun wr hb i hi => (hb.cell (p := ⟨b, o + i, none⟩) (World.block_lt_of_cell? w _ (hc i hi))).trans (hc i hi)
    have hlen : ((l.length : Nat) : Int) ≤ 1000000 := by omega
    have HR : Hid _ := hr
    clear hc hr
    go_enter Try.func13, Try.ntmps13
    go_wp2_with fail
    go_loopw [5, 10] (fun _ y wr => ∃ (k : Nat) (mo : Option Nat), k ≤ l.length ∧ y = .int .i64 (k : Nat) ∧ SetAt wr w.heap.size mo (ofInts (l.take k)) ∧ (∀ m, mo = some m → w.heap.size ≤ m) ∧ Below w.heap.size w wr) (fun _ y _ => l.length - (intOf y).toNat)
    case atStart => exact ⟨0, none, by omega, rfl, h0, by simp, hB0⟩
    case round =>
      obtain ⟨k, mo, hk, rfl, hs, hm, hB⟩ := hrel
      by_cases hlt : k < l.length
      · have hki : (k : Int) < l.length := by omega
        have hk0 : (0 : Int) ≤ k := by omega
        have hcell := HC.out wr hB k hlt
        have hx : l.getD k 0 ∈ l := by rw [getD_at hlt]; exact List.getElem_mem hlt
        have ha := add_any hs (l.getD k 0) (HR.out _ hx)
        rw [addM_ofInts] at ha
        have ht : l.take k ++ [l.getD k 0] = l.take (k + 1) := by rw [getD_at hlt, List.take_succ_eq_append_getElem hlt]
        rw [ht] at ha
        clear ht hx
        generalize l.getD k 0 = x at hcell ha
        go_wp2_with (first
          | (go_at_call 27; refine ha.mono ?_; rintro e w1 ⟨rfl, mo', h3, hN, hO⟩))
        have hs1 := hO.size
        have hs0 := hB.size
        go_roundw
        case rel =>
          refine ⟨k + 1, mo', by omega, rfl, h3, ?_, OnlyS.fresh hB hO (Nat.le_refl _) hm⟩
          rcases hN with rfl | ⟨m', rfl, hm'⟩
          · exact hm
          · rintro m'' e
            injection e with e
            omega
        case measure => simp [intOf]; omega
      · have hki : ¬ (k : Int) < l.length := by omega
        rw [List.take_of_length_le (by omega)] at hs
        go_wp2_with fail
        refine bodyPost_ret (results_tmp rfl _ _ _) rfl ?_
        exact ⟨_, rfl, _, hs, Nat.le_refl _, hm, hB⟩
end Go.Proofs.Ytiokbhbggpibpaa
