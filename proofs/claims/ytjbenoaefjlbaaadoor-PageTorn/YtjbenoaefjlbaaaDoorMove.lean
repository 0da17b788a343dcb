/-
  What the call of moveLanes does.
-/
import Derived.Test.YtjbenoaefjlbaaaDoorCols
import Derived.Test.YtjbenoaefjlbaaaDoorLaws
import Derived.Deep.RegionHeld3
namespace Go.Proofs.YtjbenoaefjlbaaaDoor
open Go.RowKit

theorem info25 : (Tryd.prog.info? 56).map (·.size) = some 25 := by kernel_rfl
theorem zero25 : ∀ w, (zeroValue 56).run Tryd.prog w = .ok (.agg (lanesA fun _ => 0)) w := (zero_of_info (n := 25) (by kernel_rfl)).1

/-- One lane more is put where it goes. -/
theorem rhopi_step (s : Nat → BitVec 64) (b : Nat) (t : TypeId) (k : Nat) (w : World) (hk : k < 25)
    (h : Holds w b t (lanesA (fun i => if srcs i < k then rhopi s i else s i))) :
    Holds (w.setCell ⟨b, tgts k, none⟩ (.int .u64 (lane (rotl (s k) (offs k))))) b t (lanesA (fun i => if srcs i < k + 1 then rhopi s i else s i)) := by
  refine (h.laneSet (tgts k) _ (tgts_lt k hk)).congr (lanesA_congr fun i hi => ?_)
  by_cases e : i = tgts k
  · subst e
    have := srcs_tgts k hk
    simp [rhopi, this]
  · have h1 : srcs i ≠ k := fun q => e (by rw [← q, tgts_srcs i hi])
    by_cases c : srcs i < k
    · simp [e, c, show srcs i < k + 1 by omega]
    · simp [e, c, show ¬ srcs i < k + 1 by omega]

set_option maxRecDepth 4000 in
set_option maxHeartbeats 1000000 in
theorem moveLanes_any (s : Nat → BitVec 64) (b : Nat) (t : TypeId) (w : World) (hb : Holds w b t (lanesA s)) (hT : Tabs w) (hb3 : 4 ≤ b) :
    Calls Tryd.prog 51 #[.pointer (some ⟨b, 0, none⟩)] w fun e w' => e = .returned (.tuple #[]) ∧ Only b w w' ∧ Holds w' b t (lanesA (rhopi s)) := by
  go_enter Tryd.func51, Tryd.ntmps51
  go_wp2_with (first
    | (refine wpList_loadH rfl 56 _ rfl b rfl t (lanesA s) _ hb Tryd.underlying56 rfl (by rw [lanesA_size]; exact info25) ?_)
    | (refine wpList_storeH rfl 56 _ _ rfl w.heap.size (lanesA s) rfl rfl 56 (lanesA fun _ => 0) (Holds.new _ _ _) (by rw [lanesA_size]; exact info25) (by rw [lanesA_size, lanesA_size]) (lanesA_one s) ?_
       intro w1 h1 o1 z1))
  have hbn : b ≠ w.heap.size := Nat.ne_of_lt hb.lt
  have hB : Below w.heap.size w w1 := Only.fresh ((Below.refl _ _).alloc (Nat.le_refl _) _) o1 (Nat.le_refl _)
  have hb1 : Holds w1 b t (lanesA s) := Below.holds hB hb
  have hT1 : Tabs w1 := hT.below hB
  have ho1 : Only b w w1 := (Only.refl _ _).below hB
  obtain ⟨n, hn⟩ : ∃ n, n = w.heap.size := ⟨_, rfl⟩
  have hn3 : 4 ≤ n := hn ▸ hT.size
  rw [← hn] at h1 hbn ⊢
  have HN : Hid (n = w.heap.size) := hn
  have HB : Hid (Holds w1 b t (lanesA s)) := hb1
  clear hn hb o1 z1 hB hT hb1
  go_loopw [7] (fun y wr => ∃ k : Nat, k ≤ 25 ∧ y = .int .i64 k ∧ Only b w1 wr ∧ Holds wr b t (lanesA (fun i => if srcs i < k then rhopi s i else s i))) (fun y _ => 25 - (intOf y).toNat)
  case atStart => exact ⟨0, by omega, rfl, Only.refl _ _, Holds.congr HB.out (lanesA_congr fun i _ => by simp)⟩
  case round =>
    obtain ⟨k, hk, rfl, ho, hh⟩ := hrel
    by_cases hlt : k < 25
    · have hTr := hT1.only hb3 ho
      have hcs := (ho.holds h1 (Ne.symm hbn)).laneAt k hlt
      have hct := hTr.tgt k hlt
      have hco := hTr.off k hlt
      have hcb := hh.laneAt (tgts k) (tgts_lt k hlt)
      have hf := hh.frozen
      have hk1 : (k : Int) < 25 := by omega
      have hbo : b ≠ 2 := by omega
      have hbt : b ≠ 3 := by omega
      have ht1 : ((tgts k : Nat) : Int) < 25 := by have := tgts_lt k hlt; omega
      have ht2 : tgts k < 25 := tgts_lt k hlt
      have HO := offs_lt k hlt
      have HH : Hid (Holds wr b t (lanesA (fun i => if srcs i < k then rhopi s i else s i))) := hh
      clear hTr hT1 h1 hh hk HB
      go_wp2
      go_region_held3 (fun w' => w'.cell? ⟨n, k, none⟩ = some (.int .u64 (lane (s k))) ∧ w'.cell? ⟨3, k, none⟩ = some (.int .i64 (tgts k)) ∧ w'.cell? ⟨2, k, none⟩ = some (.int .i64 (offs k))) (go_keep)
        (first | (go_at_call 53; refine (rot_any _ _ _ HO).mono ?_; rintro e w' ⟨rfl, rfl⟩))
      go_wp2
      go_roundw
      case rel =>
        exact ⟨k + 1, by omega, rfl, (ho.set _ _).drew, Holds.drew (rhopi_step s b t k wr hlt HH.out)⟩
      case measure => simp [intOf]; omega
    · have hk5 : ¬ (k : Int) < 25 := by omega
      have hkk : k = 25 := by omega
      subst hkk
      go_wp2
      go_end0
      exact ⟨rfl, ho1.trans ho, hh.congr (lanesA_congr fun i hi => by simp [srcs_lt i hi])⟩

end Go.Proofs.YtjbenoaefjlbaaaDoor
