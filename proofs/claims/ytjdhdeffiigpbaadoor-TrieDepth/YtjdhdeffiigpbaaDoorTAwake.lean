/-
  The chapter's examples: awake answers true.
-/
import Derived.Test.YtjdhdeffiigpbaaDoorTBldW
import Derived.Test.YtjdhdeffiigpbaaDoorTEval
namespace Go.Proofs.YtjdhdeffiigpbaaDoor
open Go Go.RowKit Nb

theorem leaf_ex : leafS ⟨#[1, 2]⟩ ⟨#[97]⟩ = ⟨#[196, 130, 32, 18, 97]⟩ := by decide +kernel
theorem ok_ex : okE (⟨#[1, 2]⟩ : ByteArray).data.toList = 0 := by decide +kernel
theorem ref_ex : refN (⟨#[193, 128]⟩ : ByteArray).data.toList = [193, 128] := rfl
theorem twice_no : ¬ mayL [(⟨#[1]⟩, ⟨#[97]⟩), (⟨#[1]⟩, ⟨#[98]⟩)] := fun ⟨_, h⟩ => by
  have := (List.pairwise_cons.1 h.apart).1 _ List.mem_cons_self
  exact this rfl
theorem built_pair (x y : ByteArray) : Tryd.prog.built 33 [(0, .string x), (1, .string y)] = some #[.string x, .string y] := by kernel_rfl
theorem run_pair (x y : ByteArray) (w : World) : (Instr.build 33 #[(0, .string x), (1, .string y)]).run Tryd.prog w = .ok (.agg #[.string x, .string y]) w := run_build w 33 _ _ (built_pair x y)
theorem fill_pairs (a b c d : Value) : Instr.fill (fun i => some (i * 2, 2)) ((Array.range (2 * 2)).map ((#[.string ⟨#[]⟩, .string ⟨#[]⟩] : Array Value)[· % 2]!)) [(0, .agg #[a, b]), (1, .agg #[c, d])] = some #[a, b, c, d] := by kernel_rfl
theorem run_pairs2 (a b c d : Value) (w : World) : (Instr.buildSlice 30 2 #[(0, .agg #[a, b]), (1, .agg #[c, d])]).run Tryd.prog w = .ok (.slice (some ⟨w.heap.size, 0, none⟩) 2 2) (w.alloc (.cells #[a, b, c, d] 33)) := by
  have h := fill_pairs a b c d
  have hz := Tryd.zeroValue33 w
  have hs := Tryd.sizeOf33 w
  unfold Instr.buildSlice
  simp only [Sem.run_bind, run_underlying Tryd.underlying30, Result.andThen_ok, hs]
  rw [if_neg (by decide), if_neg (by decide)]
  simp only [Sem.run_bind, hz, Result.andThen_ok, Sem.run_pure, Value.cells]
  have e : (#[Value.string ⟨#[]⟩, Value.string ⟨#[]⟩] : Array Value).size = 2 := rfl
  simp only [e, h]
  simp [go_sem]
theorem zeroBld : (Instr.build 50 #[]).run Tryd.prog = fun w => .ok (.agg (bcells 0 ⟨#[]⟩ ⟨#[]⟩ none)) w := funext fun w => run_build w 50 _ _ (by kernel_rfl)
set_option maxRecDepth 16000 in
set_option maxHeartbeats 4000000 in
theorem awake_any (w : World) (hT : K.Tabs w) : Calls Tryd.prog 7 #[] w fun e w' => e = .returned (.bool true) ∧ Below w.heap.size w w' := by
  have hz := zeroSum14
  obtain ⟨zs, hzs⟩ : ∃ zs, K.bytesA 32 (fun _ => 0) = zs := ⟨_, rfl⟩
  have hzz : zs.size = 32 := by rw [← hzs]; exact K.bytesA_size 32 _
  have hzo : zs.all (fun x => x.oneCell') = true := by rw [← hzs]; exact K.bytesA_one 32 _
  have hzi : (Tryd.prog.info? 40).map (·.size) = some zs.size := by rw [hzz]; exact infoSum14
  have hrn := fun w h => root_none none 0 w h
  have hrb : ∀ w : World, Calls Tryd.prog 24 #[.slice (some ⟨w.heap.size, 0, none⟩) 2 2] (w.alloc (.cells #[.string ⟨#[1]⟩, .string ⟨#[97]⟩, .string ⟨#[1]⟩, .string ⟨#[98]⟩] 33)) fun e w' => e = .returned (.tuple #[.agg zs, .int .i64 1]) ∧ Below w.heap.size w w' := by
    intro w
    rw [← hzs]
    refine (root_bad _ [(⟨#[1]⟩, ⟨#[97]⟩), (⟨#[1]⟩, ⟨#[98]⟩)] _ (.inr ⟨w.heap.size, 0, 2, rfl, by simp, fun i x hx => ?_⟩) (by simp) (fun p hp => ?_) twice_no (by simp)).mono fun e w' ⟨he, hB⟩ => ⟨he, alloc_below hB⟩
    · have hH := K.Holds.new w 33 #[.string ⟨#[1]⟩, .string ⟨#[97]⟩, .string ⟨#[1]⟩, .string ⟨#[98]⟩]
      match i, hx with
      | 0, hx => simp at hx; subst hx; exact ⟨hH.cell 0, hH.cell 1⟩
      | 1, hx => simp at hx; subst hx; exact ⟨hH.cell 2, hH.cell 3⟩
      | i + 2, hx => simp at hx
    · simp at hp
      rcases hp with rfl | rfl <;> decide
  rw [hzs] at hz
  have heq := fun w => K.eql_sums_same w (K.hashOf [128])
  have he := fun w hT => empty_any w hT
  have hon := K.bytesA_one 32 (K.hashOf [128])
  have hss : (K.bytesA 32 (K.hashOf [128])).size = 32 := K.bytesA_size 32 _
  have g0 := K.bytesA_get 32 (K.hashOf [128]) 0 (by omega)
  have g1 := K.bytesA_get 32 (K.hashOf [128]) 1 (by omega)
  have g31 := K.bytesA_get 32 (K.hashOf [128]) 31 (by omega)
  rw [K.emp_0] at g0
  rw [K.emp_1] at g1
  rw [K.emp_31] at g31
  obtain ⟨sm, hsm⟩ : ∃ sm, K.bytesA 32 (K.hashOf [128]) = sm := ⟨_, rfl⟩
  rw [hsm] at hrn he hon hss heq g0 g1 g31
  have hin : (Tryd.prog.info? 40).map (·.size) = some sm.size := by rw [hss]; exact infoSum14
  have HG : Hid (sm[0]? = some (.int .u8 86) ∧ sm[1]? = some (.int .u8 232) ∧ sm[31]? = some (.int .u8 33)) := ⟨g0, g1, g31⟩
  have HQ : Hid (∀ w, (Op.equalIn 10000 40 (.agg sm) (.agg sm)).run Tryd.prog w = .ok true w) := heq
  have HEM : Hid (∀ w, K.Tabs w → Calls Tryd.prog 23 #[] w fun e w' => e = .returned (.agg sm) ∧ Below w.heap.size w w') := he
  have hlf := fun w => leaf_any ⟨#[1, 2]⟩ ⟨#[97]⟩ w (by decide) (by decide)
  rw [leaf_ex, ok_ex] at hlf
  have hrp := run_pairs2
  have hrp1 := run_pair
  have hzb : ∀ w, (Instr.build 50 #[]).run Tryd.prog w = .ok (.agg #[.int .i64 0, .string ⟨#[]⟩, .string ⟨#[]⟩, .pointer none]) w := fun w => run_build w 50 _ _ (by kernel_rfl)
  clear g0 g1 g31 heq he hsm hzs
  go_enter Tryd.func7, Tryd.ntmps7
  go_wp2_with fail
  refine (hrn _ hT).mono ?_
  rintro e w1 ⟨rfl, hB1⟩
  dsimp only
  obtain ⟨b, hb⟩ : ∃ b, w1.heap.size = b := ⟨_, rfl⟩
  have hbw : w.heap.size ≤ b := hb ▸ hB1.size
  go_wp2_with (first
    | (refine K.wpList_storeH rfl 40 _ _ rfl b sm rfl rfl 40 zs (hb ▸ K.Holds.new _ _ _) hin (by rw [hzz, hss]) hon ?_
       intro w3 h3 o3 z3)
    | fail)
  have hB3 : Below w.heap.size w w3 := K.Only.fresh (hB1.trans (((Below.refl _ _).alloc (Nat.le_refl _) _).mono hB1.size)) o3 hbw
  have HB3 : Hid (Below w.heap.size w w3) := hB3
  clear hB3 o3 z3 hB1 hrn
  refine (hlf _).mono ?_
  rintro e w4 ⟨rfl, hB4⟩
  have h4 := K.Below.holds hB4 h3
  have HB4 : Hid (Below w.heap.size w w4) := HB3.out.trans (hB4.mono HB3.out.size)
  clear h3 hB4 HB3 hlf
  go_wp2_with fail
  refine (hrb w4).mono ?_
  rintro e w5 ⟨rfl, hB5⟩
  have h5 := K.Below.holds hB5 h4
  have hB5' : Below w.heap.size w w5 := HB4.out.trans (hB5.mono HB4.out.size)
  obtain ⟨c, hc⟩ : ∃ c, w5.heap.size = c := ⟨_, rfl⟩
  have hcw : w.heap.size ≤ c := hc ▸ hB5'.size
  have hbc : b < c := hc ▸ h5.lt
  have h5' := h5.alloc (.cells zs 40)
  dsimp only
  clear hb h4 h5 HB4 hB5 hrb
  go_wp2_with (first
    | (refine K.wpList_storeH rfl 40 _ _ rfl c zs rfl rfl 40 zs (hc ▸ K.Holds.new _ _ _) hzi rfl hzo ?_
       intro w6 h6 o6 z6
       have hB6 : Below w.heap.size w w6 := K.Only.fresh (hB5'.trans (((Below.refl _ _).alloc (Nat.le_refl _) _).mono hB5'.size)) o6 hcw
       have h7 : K.Holds w6 b 40 sm := o6.holds h5' (by omega)
       have HB6 : Hid (Below w.heap.size w w6) := hB6
       obtain ⟨bb, hbb⟩ : ∃ bb, w6.heap.size = bb := ⟨_, rfl⟩
       obtain ⟨W6, hW6⟩ : ∃ W, w6.alloc (.cells #[.int .i64 0, .string ⟨#[]⟩, .string ⟨#[]⟩, .pointer none] 50) = W := ⟨_, rfl⟩
       have h8 : K.Holds W6 bb 50 (bcells 0 ⟨#[]⟩ ⟨#[]⟩ none) := by rw [← hW6, ← hbb]; exact K.Holds.new _ _ _
       have h9 : K.Holds W6 b 40 sm := by rw [← hW6]; exact h7.alloc _
       have HB7 : Hid (Below w.heap.size w W6) := by rw [← hW6]; exact HB6.out.alloc HB6.out.size _
       have hbw2 : w.heap.size ≤ bb := hbb ▸ HB6.out.size
       have hne : b ≠ bb := by have := h7.lt; omega
       have HN : Hid (b ≠ bb ∧ w.heap.size ≤ bb) := ⟨hne, hbw2⟩
       clear hc h6 o6 z6 hB6 h7 h5' hB5' HB6 hz hzo hzi hcw hbc hne hbw2)
    | fail)
  have ha1 := add_first ⟨#[1]⟩ ⟨#[97]⟩ h8 (by decide) (by decide) (by decide)
  clear hbb hW6 h8
  refine ha1.mono ?_
  rintro e w7 ⟨rfl, h10, o7⟩
  have h11 := o7.holds h9 HN.out.1
  have HB8 : Hid (Below w.heap.size w w7) := K.Only.fresh HB7.out o7 HN.out.2
  clear ha1 h9 o7 HB7
  go_wp2_with fail
  refine (add_no ⟨#[1]⟩ ⟨#[98]⟩ h10 (by decide) (by decide)).mono ?_
  rintro e w8 ⟨rfl, rfl⟩
  have HRF : Hid (∀ w5, Below w8.heap.size w8 w5 → Calls Tryd.prog 14 #[.string ⟨#[193, 128]⟩] w5 fun e w' => e = .returned (.string ⟨#[193, 128]⟩) ∧ Below w5.heap.size w5 w') := fun w5 h5 => by
    have hT5 := (hT.below HB8.out).below h5
    have := ref_any ⟨#[193, 128]⟩ w5 hT5 (by decide)
    rwa [ref_ex] at this
  have HE : Hid (∀ w5, Below w8.heap.size w8 w5 → Calls Tryd.prog 23 #[] w5 fun e w' => e = .returned (.agg sm) ∧ Below w5.heap.size w5 w') := fun w5 h5 => HEM.out w5 ((hT.below HB8.out).below h5)
  have HLN : Hid (∀ w5, Below w8.heap.size w8 w5 → Calls Tryd.prog 21 #[.pointer (some ⟨bb, 0, none⟩)] w5 fun e w' => e = .returned (.int .i64 1) ∧ w' = w5) := fun w5 h5 => len_any (K.Below.holds h5 h10)
  have HC : Hid (∀ w5, Below w8.heap.size w8 w5 → w5.cell? ⟨b, 0, none⟩ = some (.int .u8 86) ∧ w5.cell? ⟨b, 1, none⟩ = some (.int .u8 232) ∧ w5.cell? ⟨b, 31, none⟩ = some (.int .u8 33) ∧ K.Holds w5 b 40 sm) := fun w5 h5 => by
    have q := K.Below.holds h5 h11
    exact ⟨(q.cell 0).trans HG.out.1, (q.cell 1).trans HG.out.2.1, (q.cell 31).trans HG.out.2.2, q⟩
  clear h10 h11
  go_wp2_with fail
  refine wp_region_all (fun w5 => Below w8.heap.size w8 w5) mixedP (by kernel_rfl) ((Below.refl _ _).drew) ?_
  refine cq_val rfl (.pointer (some ⟨b, 0, none⟩)) (fun w5 h5 => by go_simp) ?_
  go_frame
  refine cq_val rfl (.int .u8 86) (fun w5 h5 => by have c := (HC.out w5 h5).1; go_simp) ?_
  go_frame
  refine cq_val rfl (.bool true) (fun w5 h5 => by go_simp) ?_
  go_frame
  go_big_quiet_step (fail)
  refine cq_val rfl (.pointer (some ⟨b, 1, none⟩)) (fun w5 h5 => by go_simp) ?_
  go_frame
  refine cq_val rfl (.int .u8 232) (fun w5 h5 => by have c := (HC.out w5 h5).2.1; go_simp) ?_
  go_frame
  refine cq_val rfl (.bool true) (fun w5 h5 => by go_simp) ?_
  go_frame
  go_big_quiet_step (exact fun _ => rfl)
  go_big_quiet_step (fail)
  refine cq_val rfl (.pointer (some ⟨b, 31, none⟩)) (fun w5 h5 => by go_simp) ?_
  go_frame
  refine cq_val rfl (.int .u8 33) (fun w5 h5 => by have c := (HC.out w5 h5).2.2.1; go_simp) ?_
  go_frame
  refine cq_val rfl (.bool true) (fun w5 h5 => by go_simp) ?_
  go_frame
  go_big_quiet_step (exact fun _ => rfl)
  go_big_quiet_step (fail)
  go_big_quiet_step (fail)
  refine cq_val rfl (.bool true) (fun w5 h5 => by go_simp) ?_
  go_frame
  go_big_quiet_step (exact fun _ => rfl)
  go_big_quiet_step (fail)
  refine cq_call rfl 23 #[] (fun _ => by go_simp) (.agg sm) (fun w5 h5 => (HE.out w5 h5).mono fun e w6 ⟨he, h6⟩ => ⟨he, h5.trans (h6.mono h5.size)⟩) ?_
  go_frame
  refine cq_load 40 _ rfl b rfl rfl 40 sm _ (fun w5 h5 => (HC.out w5 h5).2.2.2) Tryd.underlying40 rfl hin ?_
  go_frame
  refine cq_eqlS 40 _ _ _ rfl sm sm rfl rfl rfl true K.guardSum (fun w5 _ => HQ.out w5) ?_
  go_frame
  go_big_quiet_step (exact fun _ => rfl)
  go_big_quiet_step (fail)
  go_big_quiet_step (fail)
  refine cq_val rfl (.bool true) (fun w5 h5 => by go_simp) ?_
  go_frame
  go_big_quiet_step (exact fun _ => rfl)
  go_big_quiet_step (fail)
  go_big_quiet_step (fail)
  refine cq_val rfl (.bool true) (fun w5 h5 => by go_simp) ?_
  go_frame
  go_big_quiet_step (exact fun _ => rfl)
  go_big_quiet_step (fail)
  go_big_quiet_step (fail)
  refine cq_val rfl (.bool true) (fun w5 h5 => by go_simp) ?_
  go_frame
  go_big_quiet_step (exact fun _ => rfl)
  go_big_quiet_step (fail)
  refine cq_call rfl 14 #[.string ⟨#[193, 128]⟩] (fun _ => by go_simp) (.string ⟨#[193, 128]⟩) (fun w5 h5 => (HRF.out w5 h5).mono fun e w6 ⟨he, h6⟩ => ⟨he, h5.trans (h6.mono h5.size)⟩) ?_
  go_frame
  refine cq_val rfl (.bool true) (fun w5 h5 => by go_simp) ?_
  go_frame
  go_big_quiet_step (exact fun _ => rfl)
  go_big_quiet_step (fail)
  go_big_quiet_step (fail)
  refine cq_val rfl (.bool true) (fun w5 h5 => by go_simp) ?_
  go_frame
  go_big_quiet_step (exact fun _ => rfl)
  go_big_quiet_step (fail)
  go_big_quiet_step (fail)
  refine cq_val rfl (.bool true) (fun w5 h5 => by go_simp) ?_
  go_frame
  go_big_quiet_step (exact fun _ => rfl)
  go_big_quiet_step (fail)
  go_big_quiet_step (fail)
  refine cq_call rfl 21 #[.pointer (some ⟨bb, 0, none⟩)] (fun _ => by go_simp) (.int .i64 1) (fun w5 h5 => (HLN.out w5 h5).mono fun e w6 ⟨he, h6⟩ => ⟨he, h6 ▸ h5⟩) ?_
  go_frame
  refine cq_val rfl (.bool true) (fun w5 h5 => by go_simp) ?_
  go_frame
  go_big_quiet_step (exact fun _ => rfl)
  go_big_quiet_step (fail)
  refine wpQuiet_nil ?_
  intro w9 hB9
  simp only [Exit.then]
  go_at_K
  go_wp2_with fail
  go_ret
  exact ⟨rfl, HB8.out.trans (hB9.mono HB8.out.size)⟩
end Go.Proofs.YtjdhdeffiigpbaaDoor
