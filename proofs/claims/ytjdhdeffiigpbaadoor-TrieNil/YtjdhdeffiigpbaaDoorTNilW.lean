/-
  TrieNil's walk.
-/
import Derived.Test.YtjdhdeffiigpbaaDoorTAwake
namespace Go.Proofs.YtjdhdeffiigpbaaDoor
open Go Go.RowKit Nb

set_option maxRecDepth 8000 in
theorem nil_walk (key : ByteArray) (w : World) (hT : K.Tabs w) : Calls Tryd.prog 5 #[.string key] w fun e w' => e = .returned (.bool true) ∧ Below w.heap.size w w' := by
  have HQ : Hid (∀ w, (Op.equalIn 10000 40 (.agg (K.bytesA 32 (K.hashOf [128]))) (.agg (K.bytesA 32 (K.hashOf [128])))).run Tryd.prog w = .ok true w) := fun w => K.eql_sums_same w (K.hashOf [128])
  have he := fun w hT => empty_any w hT
  have hr := fun w hT => rootb_none (.pointer none) w hT fun w0 _ => len_nil w0
  obtain ⟨sm, hsm⟩ : ∃ sm, K.bytesA 32 (K.hashOf [128]) = sm := ⟨_, rfl⟩
  rw [hsm] at he hr HQ
  clear hsm
  go_enter Tryd.func5, Tryd.ntmps5
  go_wp2_with fail
  refine (awake_any w hT).mono ?_
  rintro e w1 ⟨rfl, hB1⟩
  have hT1 := hT.below hB1
  go_wp2_with fail
  refine (add_nil key ⟨#[97]⟩ w1).mono ?_
  rintro e w2 ⟨rfl, rfl⟩
  go_wp2_with fail
  refine (len_nil w2).mono ?_
  rintro e w3 ⟨rfl, rfl⟩
  go_wp2_with fail
  refine (hr w3 hT1).mono ?_
  rintro e w4 ⟨rfl, hB4⟩
  have hT4 := hT1.below hB4
  have hB := hB1.trans (hB4.mono hB1.size)
  go_wp2_with fail
  refine (he w4 hT4).mono ?_
  rintro e w5 ⟨rfl, hB5⟩
  have hB' := hB.trans (hB5.mono hB.size)
  dsimp only
  go_wp2_with (first
    | (refine K.wpList_eql rfl 40 _ _ _ rfl sm sm rfl rfl true K.guardSum (HQ.out _) ?_)
    | fail)
  go_ret
  exact ⟨rfl, hB'⟩
end Go.Proofs.YtjdhdeffiigpbaaDoor
