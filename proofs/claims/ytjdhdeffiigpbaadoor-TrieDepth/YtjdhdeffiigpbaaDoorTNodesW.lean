/-
  TrieNodes' walk.
-/
import Derived.Test.YtjdhdeffiigpbaaDoorTAwake
import Derived.Test.YtjdhdeffiigpbaaDoorTRefW
namespace Go.Proofs.YtjdhdeffiigpbaaDoor
open Go Go.RowKit Nb

def cutTo (m : Nat) (x : ByteArray) : ByteArray := if m < x.size then x.extract 0 m else x
theorem cutTo_size (m : Nat) (x : ByteArray) : (cutTo m x).size ≤ m := by
  unfold cutTo
  split
  · rw [ByteArray.size_extract]; omega
  · omega
def cutR (R : Nat → ByteArray) (n j : Nat) : ByteArray := if j < n then cutTo 40 (R j) else R j
theorem slice_cut (x : ByteArray) (m : Nat) (h : m ≤ x.size) (w : World) : (Instr.sliceAt 9 (.string x) none (some (.int .i64 (m : Int))) none).run Tryd.prog w = .ok (.string (x.extract 0 m)) w := by
  have h1 : (m : Int) ≤ x.size := by omega
  go_simp
theorem cutR_set (R : Nat → ByteArray) (n : Nat) (hn : n < 16) : strA 16 (cutR R (n + 1)) = (strA 16 (cutR R n)).setIfInBounds n (.string (cutTo 40 (R n))) := by
  rw [strA_set 16 _ n hn]
  refine strA_congr fun j _ => ?_
  unfold cutR
  by_cases e : j = n
  · subst e; rw [if_pos (Nat.lt_succ_self _), if_pos rfl]
  · rw [if_neg e]
    by_cases e2 : j < n
    · rw [if_pos (Nat.lt_succ_of_lt e2), if_pos e2]
    · rw [if_neg (by omega), if_neg e2]
theorem cutR_same (R : Nat → ByteArray) (n : Nat) (h : ¬ 40 < (R n).size) : strA 16 (cutR R (n + 1)) = strA 16 (cutR R n) := by
  refine strA_congr fun j _ => ?_
  unfold cutR
  by_cases e : j = n
  · subst e
    rw [if_pos (Nat.lt_succ_self _), if_neg (Nat.lt_irrefl _)]
    unfold cutTo
    rw [if_neg h]
  · by_cases e2 : j < n
    · rw [if_pos (Nat.lt_succ_of_lt e2), if_pos e2]
    · rw [if_neg (by omega), if_neg e2]
set_option maxRecDepth 16000 in
set_option maxHeartbeats 8000000 in
theorem nodes_00  (P T : ByteArray) (R : Nat → ByteArray) (w : World) (hT : K.Tabs w) (hPs : P.size ≤ 200) (hTs : T.size ≤ 500) (_hpl : ¬ (200 : Int) < P.size) (_htl : ¬ (500 : Int) < T.size) :
    Calls Tryd.prog 3 #[.string P, .string T, .agg (strA 16 R)] w fun e w' => e = .returned (.bool true) ∧ Below w.heap.size w w' := by
  obtain ⟨rs, hrs⟩ : ∃ rs, strA 16 R = rs := ⟨_, rfl⟩
  have HRS : Hid (strA 16 R = rs) := hrs
  rw [hrs]
  obtain ⟨r, hr⟩ : ∃ r, w.heap.size = r := ⟨_, rfl⟩
  have hH0 : K.Holds (w.alloc (.cells rs 22)) r 22 rs := hr ▸ K.Holds.new w 22 rs
  have hB0 : Below w.heap.size w (w.alloc (.cells rs 22)) := (Below.refl _ _).alloc (Nat.le_refl _) _
  have HRW : Hid (w.heap.size ≤ r) := by show _ ≤ _; omega
  have hT0 := hT.below hB0
  have haw := awake_any _ hT0
  obtain ⟨la, hla⟩ : ∃ la, leafS P T = la := ⟨_, rfl⟩
  obtain ⟨xa, hxa⟩ : ∃ xa, extS P T = xa := ⟨_, rfl⟩
  obtain ⟨ke, hke⟩ : ∃ ke, okE P.data.toList = ke := ⟨_, rfl⟩
  have hlf := fun w => leaf_any P T w (by omega) (by omega)
  have hqlf := fun w => qleaf_any P T w (by omega) (by omega)
  have hex := fun w => ext_any P T w (by omega) (by omega)
  have hqex := fun w => qext_any P T w (by omega) (by omega)
  rw [hla, hke] at hlf hqlf
  rw [hxa, hke] at hex hqex
  have HC : Hid ((∀ w, Calls Tryd.prog 8 #[.string P, .string T] w fun e w' => e = .returned (.tuple #[.string la, .int .i64 ke]) ∧ Below w.heap.size w w') ∧ (∀ w, Calls Tryd.prog 9 #[.string P, .string T] w fun e w' => e = .returned (.tuple #[.string la, .int .i64 ke]) ∧ Below w.heap.size w w') ∧ (∀ w, Calls Tryd.prog 10 #[.string P, .string T] w fun e w' => e = .returned (.tuple #[.string xa, .int .i64 ke]) ∧ Below w.heap.size w w') ∧ (∀ w, Calls Tryd.prog 11 #[.string P, .string T] w fun e w' => e = .returned (.tuple #[.string xa, .int .i64 ke]) ∧ Below w.heap.size w w')) := ⟨hlf, hqlf, hex, hqex⟩
  obtain ⟨ft, hft⟩ : ∃ ft : ByteArray, (⟨(refN T.data.toList).toArray⟩ : ByteArray) = ft := ⟨_, rfl⟩
  have hrf := fun w (h : K.Tabs w) => ref_any T w h (by omega)
  have hqrf := fun w => qref_any T w (by omega)
  rw [hft] at hrf hqrf
  have HF : Hid ((∀ w, K.Tabs w → Calls Tryd.prog 14 #[.string T] w fun e w' => e = .returned (.string ft) ∧ Below w.heap.size w w') ∧ (∀ w, Calls Tryd.prog 15 #[.string T] w fun e w' => e = .returned (.string ft) ∧ Below w.heap.size w w')) := ⟨hrf, hqrf⟩
  obtain ⟨bt, hbt⟩ : ∃ bt : ByteArray, (⟨(brL fun c => (cutR R 16 c).data.toList).toArray⟩ : ByteArray) = bt := ⟨_, rfl⟩
  have hRc : ∀ c, c < 16 → (cutR R 16 c).size ≤ 1000000 := fun c hc => by
    unfold cutR
    rw [if_pos hc]
    have := cutTo_size 40 (R c); omega
  have hbr := fun w => branch_any (cutR R 16) w hRc
  have hqbr := fun w => qbranch_any (cutR R 16) w hRc
  rw [hbt] at hbr hqbr
  obtain ⟨cs, hcs⟩ : ∃ cs, strA 16 (cutR R 16) = cs := ⟨_, rfl⟩
  rw [hcs] at hbr hqbr
  have hcz : cs.size = 16 := by rw [← hcs]; exact strA_size 16 _
  have hin : (Tryd.prog.info? 22).map (·.size) = some cs.size := by rw [hcz]; exact info16
  have HCS : Hid (strA 16 (cutR R 16) = cs) := hcs
  have HBR : Hid ((∀ w, Calls Tryd.prog 12 #[.agg cs] w fun e w' => e = .returned (.string bt) ∧ Below w.heap.size w w') ∧ (∀ w, Calls Tryd.prog 13 #[.agg cs] w fun e w' => e = .returned (.string bt) ∧ Below w.heap.size w w')) := ⟨hbr, hqbr⟩
  have HT : Hid (K.Tabs w) := hT
  clear hrs hla hxa hke hlf hqlf hex hqex hft hrf hqrf hbt hRc hbr hqbr hT hT0 hcs
  go_enter Tryd.func3, Tryd.ntmps3
  go_wp2_with fail
  refine haw.mono ?_
  rintro e w1 ⟨rfl, hB1⟩
  have h1 := K.Below.holds hB1 hH0
  have HB1 : Hid (Below w.heap.size w w1) := hB0.trans (hB1.mono hB0.size)
  clear haw hH0 hB0 hB1 hr
  go_wp2_with fail
  go_loopw [8] (fun z wr => ∃ n : Nat, n ≤ 16 ∧ z = .int .i64 (n : Nat) ∧ (∃ qs, K.Holds wr r 22 qs ∧ Hid (qs = strA 16 (cutR R n))) ∧ Hid (Below w.heap.size w wr)) (fun z _ => 16 - (intOf z).toNat)
  case atStart =>
    refine ⟨0, by omega, rfl, ⟨rs, h1, ?_⟩, HB1⟩
    show _ = _
    rw [← HRS.out]
    exact strA_congr fun i _ => by unfold cutR; rw [if_neg (Nat.not_lt_zero _)]
  case round =>
    obtain ⟨n, hn, rfl, ⟨qs, hq, HQ⟩, HB⟩ := hrel
    by_cases hlt : n < 16
    · have hlti : (n : Int) < 16 := by omega
      have hn0 : (0 : Int) ≤ n := by omega
      have hcr : wr.cell? ⟨r, n, none⟩ = some (.string (R n)) := by
        rw [hq.cell n, HQ.out, strA_get 16 _ n hlt]
        unfold cutR; rw [if_neg (Nat.lt_irrefl _)]
      have hfr : wr.frozen? ⟨r, n, none⟩ = false := hq.frozen n
      have HS1 : Hid (strA 16 (cutR R (n + 1)) = (strA 16 (cutR R n)).setIfInBounds n (.string (cutTo 40 (R n)))) := cutR_set R n hlt
      have HS2 : Hid (¬ 40 < (R n).size → strA 16 (cutR R (n + 1)) = strA 16 (cutR R n)) := cutR_same R n
      obtain ⟨x, hx⟩ : ∃ x, R n = x := ⟨_, rfl⟩
      rw [hx] at hcr HS1 HS2
      clear hx
      by_cases hl : 40 < x.size
      · have hli : (40 : Int) < x.size := by omega
        have hcut : ∀ W : World, (Instr.sliceAt 9 (.string x) none (some (.int .i64 40)) none).run Tryd.prog W = .ok (.string (x.extract 0 40)) W := fun W => slice_cut x 40 (by omega) W
        have HX2 : Hid (cutTo 40 x = x.extract 0 40) := by show _ = _; unfold cutTo; rw [if_pos hl]
        obtain ⟨y, hy⟩ : ∃ y, x.extract 0 40 = y := ⟨_, rfl⟩
        rw [hy] at hcut HX2
        clear hy hl
        go_wp2_with fail
        go_roundw
        case rel =>
          refine ⟨n + 1, by omega, by simp, ⟨_, hq.set n (.string y), ?_⟩, K.Only.fresh HB.out ((K.Only.refl r wr).set n (.string y)) HRW.out⟩
          show _ = _
          rw [HQ.out, HS1.out, HX2.out]
        case measure => simp [intOf]; omega
      · have hli : ¬ (40 : Int) < x.size := by omega
        have HQ2 : Hid (qs = strA 16 (cutR R (n + 1))) := by show _ = _; rw [HQ.out, HS2.out hl]
        clear hl
        go_wp2_with fail
        go_roundw
        case rel => exact ⟨n + 1, by omega, by simp, ⟨qs, hq, HQ2⟩, HB⟩
        case measure => simp [intOf]; omega
    · have hlti : ¬ (n : Int) < 16 := by omega
      have hn16 : n = 16 := by omega
      subst hn16
      have hqc : qs = cs := HQ.out.trans HCS.out
      rw [hqc] at hq
      clear HQ hn hlt hqc
      go_wp2_with fail
      refine (HC.out.1 _).mono ?_
      rintro e w2 ⟨rfl, hB2⟩
      go_wp2_with fail
      refine (HC.out.2.1 _).mono ?_
      rintro e w3 ⟨rfl, hB3⟩
      go_wp2_with fail
      refine (HC.out.2.2.1 _).mono ?_
      rintro e w4 ⟨rfl, hB4⟩
      go_wp2_with fail
      refine (HC.out.2.2.2 _).mono ?_
      rintro e w5 ⟨rfl, hB5⟩
      have h5 := K.Below.holds hB5 (K.Below.holds hB4 (K.Below.holds hB3 (K.Below.holds hB2 hq)))
      have hB25 := (hB2.trans (hB3.mono hB2.size))
      have hB25' := hB25.trans (hB4.mono hB25.size)
      have hB25'' := hB25'.trans (hB5.mono hB25'.size)
      have HB5 : Hid (Below w.heap.size w w5) := HB.out.trans (hB25''.mono HB.out.size)
      have hT5 := HT.out.below HB5.out
      have HX : Hid (∀ w6, Below w5.heap.size w5 w6 → K.Holds w6 r 22 cs ∧ K.Tabs w6) := fun w6 h6 => ⟨K.Below.holds h6 h5, hT5.below h6⟩
      clear hB2 hB3 hB4 hB5 hB25 hB25' hB25'' h5 hT5 hq
      go_wp2_with fail
      refine wp_region_all (fun w6 => Below w5.heap.size w5 w6) mixedP (by kernel_rfl) ((Below.refl _ _).drew) ?_
      go_big_quiet_step (fail)
      go_big_quiet_step (fail)
      go_big_quiet_step (fail)
      go_big_quiet_step (fail)
      refine cq_val rfl (.bool true) (fun w5 h5 => by go_simp) ?_
      go_frame
      go_big_quiet_step (exact fun _ => rfl)
      go_big_quiet_step (fail)
      go_big_quiet_step (fail)
      go_big_quiet_step (fail)
      refine cq_val rfl (.bool true) (fun w5 h5 => by go_simp) ?_
      go_frame
      go_big_quiet_step (exact fun _ => rfl)
      go_big_quiet_step (fail)
      go_big_quiet_step (fail)
      go_big_quiet_step (fail)
      refine cq_val rfl (.bool true) (fun w5 h5 => by go_simp) ?_
      go_frame
      go_big_quiet_step (exact fun _ => rfl)
      go_big_quiet_step (fail)
      go_big_quiet_step (fail)
      go_big_quiet_step (fail)
      refine cq_val rfl (.bool true) (fun w5 h5 => by go_simp) ?_
      go_frame
      go_big_quiet_step (exact fun _ => rfl)
      go_big_quiet_step (fail)
      refine cq_load 22 _ rfl r rfl rfl 22 cs _ (fun w5 h5 => (HX.out w5 h5).1) Tryd.underlying22 rfl hin ?_
      go_frame
      refine cq_call rfl 12 #[.agg cs] (fun _ => by go_simp) (.string bt) (fun w5 h5 => (HBR.out.1 w5).mono fun e w6 ⟨he, h6⟩ => ⟨he, h5.trans (h6.mono h5.size)⟩) ?_
      go_frame
      refine cq_load 22 _ rfl r rfl rfl 22 cs _ (fun w5 h5 => (HX.out w5 h5).1) Tryd.underlying22 rfl hin ?_
      go_frame
      refine cq_call rfl 13 #[.agg cs] (fun _ => by go_simp) (.string bt) (fun w5 h5 => (HBR.out.2 w5).mono fun e w6 ⟨he, h6⟩ => ⟨he, h5.trans (h6.mono h5.size)⟩) ?_
      go_frame
      refine cq_val rfl (.bool true) (fun w5 h5 => by go_simp) ?_
      go_frame
      go_big_quiet_step (exact fun _ => rfl)
      go_big_quiet_step (fail)
      go_big_quiet_step (fail)
      refine cq_call rfl 14 #[.string T] (fun _ => by go_simp) (.string ft) (fun w5 h5 => (HF.out.1 w5 (HX.out w5 h5).2).mono fun e w6 ⟨he, h6⟩ => ⟨he, h5.trans (h6.mono h5.size)⟩) ?_
      go_frame
      go_big_quiet_step (fail)
      refine cq_call rfl 15 #[.string T] (fun _ => by go_simp) (.string ft) (fun w5 h5 => (HF.out.2 w5).mono fun e w6 ⟨he, h6⟩ => ⟨he, h5.trans (h6.mono h5.size)⟩) ?_
      go_frame
      refine cq_val rfl (.bool true) (fun w5 h5 => by go_simp) ?_
      go_frame
      go_big_quiet_step (exact fun _ => rfl)
      go_big_quiet_step (fail)
      refine wpQuiet_nil ?_
      intro w9 hB9
      simp only [Exit.then]
      go_at_K
      go_wp2_with fail
      go_ret
      exact ⟨rfl, HB5.out.trans (hB9.mono HB5.out.size)⟩
set_option maxRecDepth 16000 in
set_option maxHeartbeats 8000000 in
theorem nodes_01 (text : ByteArray) (P T : ByteArray) (R : Nat → ByteArray) (w : World) (hT : K.Tabs w) (hPs : P.size ≤ 200) (hTs : T.size ≤ 500) (_hpl : ¬ (200 : Int) < P.size) (ht : ∀ W : World, (Instr.sliceAt 9 (.string text) none (some (.int .i64 500)) none).run Tryd.prog W = .ok (.string T) W) (_htl : (500 : Int) < text.size) :
    Calls Tryd.prog 3 #[.string P, .string text, .agg (strA 16 R)] w fun e w' => e = .returned (.bool true) ∧ Below w.heap.size w w' := by
  obtain ⟨rs, hrs⟩ : ∃ rs, strA 16 R = rs := ⟨_, rfl⟩
  have HRS : Hid (strA 16 R = rs) := hrs
  rw [hrs]
  obtain ⟨r, hr⟩ : ∃ r, w.heap.size = r := ⟨_, rfl⟩
  have hH0 : K.Holds (w.alloc (.cells rs 22)) r 22 rs := hr ▸ K.Holds.new w 22 rs
  have hB0 : Below w.heap.size w (w.alloc (.cells rs 22)) := (Below.refl _ _).alloc (Nat.le_refl _) _
  have HRW : Hid (w.heap.size ≤ r) := by show _ ≤ _; omega
  have hT0 := hT.below hB0
  have haw := awake_any _ hT0
  obtain ⟨la, hla⟩ : ∃ la, leafS P T = la := ⟨_, rfl⟩
  obtain ⟨xa, hxa⟩ : ∃ xa, extS P T = xa := ⟨_, rfl⟩
  obtain ⟨ke, hke⟩ : ∃ ke, okE P.data.toList = ke := ⟨_, rfl⟩
  have hlf := fun w => leaf_any P T w (by omega) (by omega)
  have hqlf := fun w => qleaf_any P T w (by omega) (by omega)
  have hex := fun w => ext_any P T w (by omega) (by omega)
  have hqex := fun w => qext_any P T w (by omega) (by omega)
  rw [hla, hke] at hlf hqlf
  rw [hxa, hke] at hex hqex
  have HC : Hid ((∀ w, Calls Tryd.prog 8 #[.string P, .string T] w fun e w' => e = .returned (.tuple #[.string la, .int .i64 ke]) ∧ Below w.heap.size w w') ∧ (∀ w, Calls Tryd.prog 9 #[.string P, .string T] w fun e w' => e = .returned (.tuple #[.string la, .int .i64 ke]) ∧ Below w.heap.size w w') ∧ (∀ w, Calls Tryd.prog 10 #[.string P, .string T] w fun e w' => e = .returned (.tuple #[.string xa, .int .i64 ke]) ∧ Below w.heap.size w w') ∧ (∀ w, Calls Tryd.prog 11 #[.string P, .string T] w fun e w' => e = .returned (.tuple #[.string xa, .int .i64 ke]) ∧ Below w.heap.size w w')) := ⟨hlf, hqlf, hex, hqex⟩
  obtain ⟨ft, hft⟩ : ∃ ft : ByteArray, (⟨(refN T.data.toList).toArray⟩ : ByteArray) = ft := ⟨_, rfl⟩
  have hrf := fun w (h : K.Tabs w) => ref_any T w h (by omega)
  have hqrf := fun w => qref_any T w (by omega)
  rw [hft] at hrf hqrf
  have HF : Hid ((∀ w, K.Tabs w → Calls Tryd.prog 14 #[.string T] w fun e w' => e = .returned (.string ft) ∧ Below w.heap.size w w') ∧ (∀ w, Calls Tryd.prog 15 #[.string T] w fun e w' => e = .returned (.string ft) ∧ Below w.heap.size w w')) := ⟨hrf, hqrf⟩
  obtain ⟨bt, hbt⟩ : ∃ bt : ByteArray, (⟨(brL fun c => (cutR R 16 c).data.toList).toArray⟩ : ByteArray) = bt := ⟨_, rfl⟩
  have hRc : ∀ c, c < 16 → (cutR R 16 c).size ≤ 1000000 := fun c hc => by
    unfold cutR
    rw [if_pos hc]
    have := cutTo_size 40 (R c); omega
  have hbr := fun w => branch_any (cutR R 16) w hRc
  have hqbr := fun w => qbranch_any (cutR R 16) w hRc
  rw [hbt] at hbr hqbr
  obtain ⟨cs, hcs⟩ : ∃ cs, strA 16 (cutR R 16) = cs := ⟨_, rfl⟩
  rw [hcs] at hbr hqbr
  have hcz : cs.size = 16 := by rw [← hcs]; exact strA_size 16 _
  have hin : (Tryd.prog.info? 22).map (·.size) = some cs.size := by rw [hcz]; exact info16
  have HCS : Hid (strA 16 (cutR R 16) = cs) := hcs
  have HBR : Hid ((∀ w, Calls Tryd.prog 12 #[.agg cs] w fun e w' => e = .returned (.string bt) ∧ Below w.heap.size w w') ∧ (∀ w, Calls Tryd.prog 13 #[.agg cs] w fun e w' => e = .returned (.string bt) ∧ Below w.heap.size w w')) := ⟨hbr, hqbr⟩
  have HT : Hid (K.Tabs w) := hT
  clear hrs hla hxa hke hlf hqlf hex hqex hft hrf hqrf hbt hRc hbr hqbr hT hT0 hcs
  go_enter Tryd.func3, Tryd.ntmps3
  go_wp2_with fail
  refine haw.mono ?_
  rintro e w1 ⟨rfl, hB1⟩
  have h1 := K.Below.holds hB1 hH0
  have HB1 : Hid (Below w.heap.size w w1) := hB0.trans (hB1.mono hB0.size)
  clear haw hH0 hB0 hB1 hr
  go_wp2_with fail
  go_loopw [8] (fun z wr => ∃ n : Nat, n ≤ 16 ∧ z = .int .i64 (n : Nat) ∧ (∃ qs, K.Holds wr r 22 qs ∧ Hid (qs = strA 16 (cutR R n))) ∧ Hid (Below w.heap.size w wr)) (fun z _ => 16 - (intOf z).toNat)
  case atStart =>
    refine ⟨0, by omega, rfl, ⟨rs, h1, ?_⟩, HB1⟩
    show _ = _
    rw [← HRS.out]
    exact strA_congr fun i _ => by unfold cutR; rw [if_neg (Nat.not_lt_zero _)]
  case round =>
    obtain ⟨n, hn, rfl, ⟨qs, hq, HQ⟩, HB⟩ := hrel
    by_cases hlt : n < 16
    · have hlti : (n : Int) < 16 := by omega
      have hn0 : (0 : Int) ≤ n := by omega
      have hcr : wr.cell? ⟨r, n, none⟩ = some (.string (R n)) := by
        rw [hq.cell n, HQ.out, strA_get 16 _ n hlt]
        unfold cutR; rw [if_neg (Nat.lt_irrefl _)]
      have hfr : wr.frozen? ⟨r, n, none⟩ = false := hq.frozen n
      have HS1 : Hid (strA 16 (cutR R (n + 1)) = (strA 16 (cutR R n)).setIfInBounds n (.string (cutTo 40 (R n)))) := cutR_set R n hlt
      have HS2 : Hid (¬ 40 < (R n).size → strA 16 (cutR R (n + 1)) = strA 16 (cutR R n)) := cutR_same R n
      obtain ⟨x, hx⟩ : ∃ x, R n = x := ⟨_, rfl⟩
      rw [hx] at hcr HS1 HS2
      clear hx
      by_cases hl : 40 < x.size
      · have hli : (40 : Int) < x.size := by omega
        have hcut : ∀ W : World, (Instr.sliceAt 9 (.string x) none (some (.int .i64 40)) none).run Tryd.prog W = .ok (.string (x.extract 0 40)) W := fun W => slice_cut x 40 (by omega) W
        have HX2 : Hid (cutTo 40 x = x.extract 0 40) := by show _ = _; unfold cutTo; rw [if_pos hl]
        obtain ⟨y, hy⟩ : ∃ y, x.extract 0 40 = y := ⟨_, rfl⟩
        rw [hy] at hcut HX2
        clear hy hl
        go_wp2_with fail
        go_roundw
        case rel =>
          refine ⟨n + 1, by omega, by simp, ⟨_, hq.set n (.string y), ?_⟩, K.Only.fresh HB.out ((K.Only.refl r wr).set n (.string y)) HRW.out⟩
          show _ = _
          rw [HQ.out, HS1.out, HX2.out]
        case measure => simp [intOf]; omega
      · have hli : ¬ (40 : Int) < x.size := by omega
        have HQ2 : Hid (qs = strA 16 (cutR R (n + 1))) := by show _ = _; rw [HQ.out, HS2.out hl]
        clear hl
        go_wp2_with fail
        go_roundw
        case rel => exact ⟨n + 1, by omega, by simp, ⟨qs, hq, HQ2⟩, HB⟩
        case measure => simp [intOf]; omega
    · have hlti : ¬ (n : Int) < 16 := by omega
      have hn16 : n = 16 := by omega
      subst hn16
      have hqc : qs = cs := HQ.out.trans HCS.out
      rw [hqc] at hq
      clear HQ hn hlt hqc
      go_wp2_with fail
      refine (HC.out.1 _).mono ?_
      rintro e w2 ⟨rfl, hB2⟩
      go_wp2_with fail
      refine (HC.out.2.1 _).mono ?_
      rintro e w3 ⟨rfl, hB3⟩
      go_wp2_with fail
      refine (HC.out.2.2.1 _).mono ?_
      rintro e w4 ⟨rfl, hB4⟩
      go_wp2_with fail
      refine (HC.out.2.2.2 _).mono ?_
      rintro e w5 ⟨rfl, hB5⟩
      have h5 := K.Below.holds hB5 (K.Below.holds hB4 (K.Below.holds hB3 (K.Below.holds hB2 hq)))
      have hB25 := (hB2.trans (hB3.mono hB2.size))
      have hB25' := hB25.trans (hB4.mono hB25.size)
      have hB25'' := hB25'.trans (hB5.mono hB25'.size)
      have HB5 : Hid (Below w.heap.size w w5) := HB.out.trans (hB25''.mono HB.out.size)
      have hT5 := HT.out.below HB5.out
      have HX : Hid (∀ w6, Below w5.heap.size w5 w6 → K.Holds w6 r 22 cs ∧ K.Tabs w6) := fun w6 h6 => ⟨K.Below.holds h6 h5, hT5.below h6⟩
      clear hB2 hB3 hB4 hB5 hB25 hB25' hB25'' h5 hT5 hq
      go_wp2_with fail
      refine wp_region_all (fun w6 => Below w5.heap.size w5 w6) mixedP (by kernel_rfl) ((Below.refl _ _).drew) ?_
      go_big_quiet_step (fail)
      go_big_quiet_step (fail)
      go_big_quiet_step (fail)
      go_big_quiet_step (fail)
      refine cq_val rfl (.bool true) (fun w5 h5 => by go_simp) ?_
      go_frame
      go_big_quiet_step (exact fun _ => rfl)
      go_big_quiet_step (fail)
      go_big_quiet_step (fail)
      go_big_quiet_step (fail)
      refine cq_val rfl (.bool true) (fun w5 h5 => by go_simp) ?_
      go_frame
      go_big_quiet_step (exact fun _ => rfl)
      go_big_quiet_step (fail)
      go_big_quiet_step (fail)
      go_big_quiet_step (fail)
      refine cq_val rfl (.bool true) (fun w5 h5 => by go_simp) ?_
      go_frame
      go_big_quiet_step (exact fun _ => rfl)
      go_big_quiet_step (fail)
      go_big_quiet_step (fail)
      go_big_quiet_step (fail)
      refine cq_val rfl (.bool true) (fun w5 h5 => by go_simp) ?_
      go_frame
      go_big_quiet_step (exact fun _ => rfl)
      go_big_quiet_step (fail)
      refine cq_load 22 _ rfl r rfl rfl 22 cs _ (fun w5 h5 => (HX.out w5 h5).1) Tryd.underlying22 rfl hin ?_
      go_frame
      refine cq_call rfl 12 #[.agg cs] (fun _ => by go_simp) (.string bt) (fun w5 h5 => (HBR.out.1 w5).mono fun e w6 ⟨he, h6⟩ => ⟨he, h5.trans (h6.mono h5.size)⟩) ?_
      go_frame
      refine cq_load 22 _ rfl r rfl rfl 22 cs _ (fun w5 h5 => (HX.out w5 h5).1) Tryd.underlying22 rfl hin ?_
      go_frame
      refine cq_call rfl 13 #[.agg cs] (fun _ => by go_simp) (.string bt) (fun w5 h5 => (HBR.out.2 w5).mono fun e w6 ⟨he, h6⟩ => ⟨he, h5.trans (h6.mono h5.size)⟩) ?_
      go_frame
      refine cq_val rfl (.bool true) (fun w5 h5 => by go_simp) ?_
      go_frame
      go_big_quiet_step (exact fun _ => rfl)
      go_big_quiet_step (fail)
      go_big_quiet_step (fail)
      refine cq_call rfl 14 #[.string T] (fun _ => by go_simp) (.string ft) (fun w5 h5 => (HF.out.1 w5 (HX.out w5 h5).2).mono fun e w6 ⟨he, h6⟩ => ⟨he, h5.trans (h6.mono h5.size)⟩) ?_
      go_frame
      go_big_quiet_step (fail)
      refine cq_call rfl 15 #[.string T] (fun _ => by go_simp) (.string ft) (fun w5 h5 => (HF.out.2 w5).mono fun e w6 ⟨he, h6⟩ => ⟨he, h5.trans (h6.mono h5.size)⟩) ?_
      go_frame
      refine cq_val rfl (.bool true) (fun w5 h5 => by go_simp) ?_
      go_frame
      go_big_quiet_step (exact fun _ => rfl)
      go_big_quiet_step (fail)
      refine wpQuiet_nil ?_
      intro w9 hB9
      simp only [Exit.then]
      go_at_K
      go_wp2_with fail
      go_ret
      exact ⟨rfl, HB5.out.trans (hB9.mono HB5.out.size)⟩
set_option maxRecDepth 16000 in
set_option maxHeartbeats 8000000 in
theorem nodes_10 (path : ByteArray) (P T : ByteArray) (R : Nat → ByteArray) (w : World) (hT : K.Tabs w) (hPs : P.size ≤ 200) (hTs : T.size ≤ 500) (hp : ∀ W : World, (Instr.sliceAt 9 (.string path) none (some (.int .i64 200)) none).run Tryd.prog W = .ok (.string P) W) (_hpl : (200 : Int) < path.size) (_htl : ¬ (500 : Int) < T.size) :
    Calls Tryd.prog 3 #[.string path, .string T, .agg (strA 16 R)] w fun e w' => e = .returned (.bool true) ∧ Below w.heap.size w w' := by
  obtain ⟨rs, hrs⟩ : ∃ rs, strA 16 R = rs := ⟨_, rfl⟩
  have HRS : Hid (strA 16 R = rs) := hrs
  rw [hrs]
  obtain ⟨r, hr⟩ : ∃ r, w.heap.size = r := ⟨_, rfl⟩
  have hH0 : K.Holds (w.alloc (.cells rs 22)) r 22 rs := hr ▸ K.Holds.new w 22 rs
  have hB0 : Below w.heap.size w (w.alloc (.cells rs 22)) := (Below.refl _ _).alloc (Nat.le_refl _) _
  have HRW : Hid (w.heap.size ≤ r) := by show _ ≤ _; omega
  have hT0 := hT.below hB0
  have haw := awake_any _ hT0
  obtain ⟨la, hla⟩ : ∃ la, leafS P T = la := ⟨_, rfl⟩
  obtain ⟨xa, hxa⟩ : ∃ xa, extS P T = xa := ⟨_, rfl⟩
  obtain ⟨ke, hke⟩ : ∃ ke, okE P.data.toList = ke := ⟨_, rfl⟩
  have hlf := fun w => leaf_any P T w (by omega) (by omega)
  have hqlf := fun w => qleaf_any P T w (by omega) (by omega)
  have hex := fun w => ext_any P T w (by omega) (by omega)
  have hqex := fun w => qext_any P T w (by omega) (by omega)
  rw [hla, hke] at hlf hqlf
  rw [hxa, hke] at hex hqex
  have HC : Hid ((∀ w, Calls Tryd.prog 8 #[.string P, .string T] w fun e w' => e = .returned (.tuple #[.string la, .int .i64 ke]) ∧ Below w.heap.size w w') ∧ (∀ w, Calls Tryd.prog 9 #[.string P, .string T] w fun e w' => e = .returned (.tuple #[.string la, .int .i64 ke]) ∧ Below w.heap.size w w') ∧ (∀ w, Calls Tryd.prog 10 #[.string P, .string T] w fun e w' => e = .returned (.tuple #[.string xa, .int .i64 ke]) ∧ Below w.heap.size w w') ∧ (∀ w, Calls Tryd.prog 11 #[.string P, .string T] w fun e w' => e = .returned (.tuple #[.string xa, .int .i64 ke]) ∧ Below w.heap.size w w')) := ⟨hlf, hqlf, hex, hqex⟩
  obtain ⟨ft, hft⟩ : ∃ ft : ByteArray, (⟨(refN T.data.toList).toArray⟩ : ByteArray) = ft := ⟨_, rfl⟩
  have hrf := fun w (h : K.Tabs w) => ref_any T w h (by omega)
  have hqrf := fun w => qref_any T w (by omega)
  rw [hft] at hrf hqrf
  have HF : Hid ((∀ w, K.Tabs w → Calls Tryd.prog 14 #[.string T] w fun e w' => e = .returned (.string ft) ∧ Below w.heap.size w w') ∧ (∀ w, Calls Tryd.prog 15 #[.string T] w fun e w' => e = .returned (.string ft) ∧ Below w.heap.size w w')) := ⟨hrf, hqrf⟩
  obtain ⟨bt, hbt⟩ : ∃ bt : ByteArray, (⟨(brL fun c => (cutR R 16 c).data.toList).toArray⟩ : ByteArray) = bt := ⟨_, rfl⟩
  have hRc : ∀ c, c < 16 → (cutR R 16 c).size ≤ 1000000 := fun c hc => by
    unfold cutR
    rw [if_pos hc]
    have := cutTo_size 40 (R c); omega
  have hbr := fun w => branch_any (cutR R 16) w hRc
  have hqbr := fun w => qbranch_any (cutR R 16) w hRc
  rw [hbt] at hbr hqbr
  obtain ⟨cs, hcs⟩ : ∃ cs, strA 16 (cutR R 16) = cs := ⟨_, rfl⟩
  rw [hcs] at hbr hqbr
  have hcz : cs.size = 16 := by rw [← hcs]; exact strA_size 16 _
  have hin : (Tryd.prog.info? 22).map (·.size) = some cs.size := by rw [hcz]; exact info16
  have HCS : Hid (strA 16 (cutR R 16) = cs) := hcs
  have HBR : Hid ((∀ w, Calls Tryd.prog 12 #[.agg cs] w fun e w' => e = .returned (.string bt) ∧ Below w.heap.size w w') ∧ (∀ w, Calls Tryd.prog 13 #[.agg cs] w fun e w' => e = .returned (.string bt) ∧ Below w.heap.size w w')) := ⟨hbr, hqbr⟩
  have HT : Hid (K.Tabs w) := hT
  clear hrs hla hxa hke hlf hqlf hex hqex hft hrf hqrf hbt hRc hbr hqbr hT hT0 hcs
  go_enter Tryd.func3, Tryd.ntmps3
  go_wp2_with fail
  refine haw.mono ?_
  rintro e w1 ⟨rfl, hB1⟩
  have h1 := K.Below.holds hB1 hH0
  have HB1 : Hid (Below w.heap.size w w1) := hB0.trans (hB1.mono hB0.size)
  clear haw hH0 hB0 hB1 hr
  go_wp2_with fail
  go_loopw [8] (fun z wr => ∃ n : Nat, n ≤ 16 ∧ z = .int .i64 (n : Nat) ∧ (∃ qs, K.Holds wr r 22 qs ∧ Hid (qs = strA 16 (cutR R n))) ∧ Hid (Below w.heap.size w wr)) (fun z _ => 16 - (intOf z).toNat)
  case atStart =>
    refine ⟨0, by omega, rfl, ⟨rs, h1, ?_⟩, HB1⟩
    show _ = _
    rw [← HRS.out]
    exact strA_congr fun i _ => by unfold cutR; rw [if_neg (Nat.not_lt_zero _)]
  case round =>
    obtain ⟨n, hn, rfl, ⟨qs, hq, HQ⟩, HB⟩ := hrel
    by_cases hlt : n < 16
    · have hlti : (n : Int) < 16 := by omega
      have hn0 : (0 : Int) ≤ n := by omega
      have hcr : wr.cell? ⟨r, n, none⟩ = some (.string (R n)) := by
        rw [hq.cell n, HQ.out, strA_get 16 _ n hlt]
        unfold cutR; rw [if_neg (Nat.lt_irrefl _)]
      have hfr : wr.frozen? ⟨r, n, none⟩ = false := hq.frozen n
      have HS1 : Hid (strA 16 (cutR R (n + 1)) = (strA 16 (cutR R n)).setIfInBounds n (.string (cutTo 40 (R n)))) := cutR_set R n hlt
      have HS2 : Hid (¬ 40 < (R n).size → strA 16 (cutR R (n + 1)) = strA 16 (cutR R n)) := cutR_same R n
      obtain ⟨x, hx⟩ : ∃ x, R n = x := ⟨_, rfl⟩
      rw [hx] at hcr HS1 HS2
      clear hx
      by_cases hl : 40 < x.size
      · have hli : (40 : Int) < x.size := by omega
        have hcut : ∀ W : World, (Instr.sliceAt 9 (.string x) none (some (.int .i64 40)) none).run Tryd.prog W = .ok (.string (x.extract 0 40)) W := fun W => slice_cut x 40 (by omega) W
        have HX2 : Hid (cutTo 40 x = x.extract 0 40) := by show _ = _; unfold cutTo; rw [if_pos hl]
        obtain ⟨y, hy⟩ : ∃ y, x.extract 0 40 = y := ⟨_, rfl⟩
        rw [hy] at hcut HX2
        clear hy hl
        go_wp2_with fail
        go_roundw
        case rel =>
          refine ⟨n + 1, by omega, by simp, ⟨_, hq.set n (.string y), ?_⟩, K.Only.fresh HB.out ((K.Only.refl r wr).set n (.string y)) HRW.out⟩
          show _ = _
          rw [HQ.out, HS1.out, HX2.out]
        case measure => simp [intOf]; omega
      · have hli : ¬ (40 : Int) < x.size := by omega
        have HQ2 : Hid (qs = strA 16 (cutR R (n + 1))) := by show _ = _; rw [HQ.out, HS2.out hl]
        clear hl
        go_wp2_with fail
        go_roundw
        case rel => exact ⟨n + 1, by omega, by simp, ⟨qs, hq, HQ2⟩, HB⟩
        case measure => simp [intOf]; omega
    · have hlti : ¬ (n : Int) < 16 := by omega
      have hn16 : n = 16 := by omega
      subst hn16
      have hqc : qs = cs := HQ.out.trans HCS.out
      rw [hqc] at hq
      clear HQ hn hlt hqc
      go_wp2_with fail
      refine (HC.out.1 _).mono ?_
      rintro e w2 ⟨rfl, hB2⟩
      go_wp2_with fail
      refine (HC.out.2.1 _).mono ?_
      rintro e w3 ⟨rfl, hB3⟩
      go_wp2_with fail
      refine (HC.out.2.2.1 _).mono ?_
      rintro e w4 ⟨rfl, hB4⟩
      go_wp2_with fail
      refine (HC.out.2.2.2 _).mono ?_
      rintro e w5 ⟨rfl, hB5⟩
      have h5 := K.Below.holds hB5 (K.Below.holds hB4 (K.Below.holds hB3 (K.Below.holds hB2 hq)))
      have hB25 := (hB2.trans (hB3.mono hB2.size))
      have hB25' := hB25.trans (hB4.mono hB25.size)
      have hB25'' := hB25'.trans (hB5.mono hB25'.size)
      have HB5 : Hid (Below w.heap.size w w5) := HB.out.trans (hB25''.mono HB.out.size)
      have hT5 := HT.out.below HB5.out
      have HX : Hid (∀ w6, Below w5.heap.size w5 w6 → K.Holds w6 r 22 cs ∧ K.Tabs w6) := fun w6 h6 => ⟨K.Below.holds h6 h5, hT5.below h6⟩
      clear hB2 hB3 hB4 hB5 hB25 hB25' hB25'' h5 hT5 hq
      go_wp2_with fail
      refine wp_region_all (fun w6 => Below w5.heap.size w5 w6) mixedP (by kernel_rfl) ((Below.refl _ _).drew) ?_
      go_big_quiet_step (fail)
      go_big_quiet_step (fail)
      go_big_quiet_step (fail)
      go_big_quiet_step (fail)
      refine cq_val rfl (.bool true) (fun w5 h5 => by go_simp) ?_
      go_frame
      go_big_quiet_step (exact fun _ => rfl)
      go_big_quiet_step (fail)
      go_big_quiet_step (fail)
      go_big_quiet_step (fail)
      refine cq_val rfl (.bool true) (fun w5 h5 => by go_simp) ?_
      go_frame
      go_big_quiet_step (exact fun _ => rfl)
      go_big_quiet_step (fail)
      go_big_quiet_step (fail)
      go_big_quiet_step (fail)
      refine cq_val rfl (.bool true) (fun w5 h5 => by go_simp) ?_
      go_frame
      go_big_quiet_step (exact fun _ => rfl)
      go_big_quiet_step (fail)
      go_big_quiet_step (fail)
      go_big_quiet_step (fail)
      refine cq_val rfl (.bool true) (fun w5 h5 => by go_simp) ?_
      go_frame
      go_big_quiet_step (exact fun _ => rfl)
      go_big_quiet_step (fail)
      refine cq_load 22 _ rfl r rfl rfl 22 cs _ (fun w5 h5 => (HX.out w5 h5).1) Tryd.underlying22 rfl hin ?_
      go_frame
      refine cq_call rfl 12 #[.agg cs] (fun _ => by go_simp) (.string bt) (fun w5 h5 => (HBR.out.1 w5).mono fun e w6 ⟨he, h6⟩ => ⟨he, h5.trans (h6.mono h5.size)⟩) ?_
      go_frame
      refine cq_load 22 _ rfl r rfl rfl 22 cs _ (fun w5 h5 => (HX.out w5 h5).1) Tryd.underlying22 rfl hin ?_
      go_frame
      refine cq_call rfl 13 #[.agg cs] (fun _ => by go_simp) (.string bt) (fun w5 h5 => (HBR.out.2 w5).mono fun e w6 ⟨he, h6⟩ => ⟨he, h5.trans (h6.mono h5.size)⟩) ?_
      go_frame
      refine cq_val rfl (.bool true) (fun w5 h5 => by go_simp) ?_
      go_frame
      go_big_quiet_step (exact fun _ => rfl)
      go_big_quiet_step (fail)
      go_big_quiet_step (fail)
      refine cq_call rfl 14 #[.string T] (fun _ => by go_simp) (.string ft) (fun w5 h5 => (HF.out.1 w5 (HX.out w5 h5).2).mono fun e w6 ⟨he, h6⟩ => ⟨he, h5.trans (h6.mono h5.size)⟩) ?_
      go_frame
      go_big_quiet_step (fail)
      refine cq_call rfl 15 #[.string T] (fun _ => by go_simp) (.string ft) (fun w5 h5 => (HF.out.2 w5).mono fun e w6 ⟨he, h6⟩ => ⟨he, h5.trans (h6.mono h5.size)⟩) ?_
      go_frame
      refine cq_val rfl (.bool true) (fun w5 h5 => by go_simp) ?_
      go_frame
      go_big_quiet_step (exact fun _ => rfl)
      go_big_quiet_step (fail)
      refine wpQuiet_nil ?_
      intro w9 hB9
      simp only [Exit.then]
      go_at_K
      go_wp2_with fail
      go_ret
      exact ⟨rfl, HB5.out.trans (hB9.mono HB5.out.size)⟩
set_option maxRecDepth 16000 in
set_option maxHeartbeats 8000000 in
theorem nodes_11 (path text : ByteArray) (P T : ByteArray) (R : Nat → ByteArray) (w : World) (hT : K.Tabs w) (hPs : P.size ≤ 200) (hTs : T.size ≤ 500) (hp : ∀ W : World, (Instr.sliceAt 9 (.string path) none (some (.int .i64 200)) none).run Tryd.prog W = .ok (.string P) W) (_hpl : (200 : Int) < path.size) (ht : ∀ W : World, (Instr.sliceAt 9 (.string text) none (some (.int .i64 500)) none).run Tryd.prog W = .ok (.string T) W) (_htl : (500 : Int) < text.size) :
    Calls Tryd.prog 3 #[.string path, .string text, .agg (strA 16 R)] w fun e w' => e = .returned (.bool true) ∧ Below w.heap.size w w' := by
  obtain ⟨rs, hrs⟩ : ∃ rs, strA 16 R = rs := ⟨_, rfl⟩
  have HRS : Hid (strA 16 R = rs) := hrs
  rw [hrs]
  obtain ⟨r, hr⟩ : ∃ r, w.heap.size = r := ⟨_, rfl⟩
  have hH0 : K.Holds (w.alloc (.cells rs 22)) r 22 rs := hr ▸ K.Holds.new w 22 rs
  have hB0 : Below w.heap.size w (w.alloc (.cells rs 22)) := (Below.refl _ _).alloc (Nat.le_refl _) _
  have HRW : Hid (w.heap.size ≤ r) := by show _ ≤ _; omega
  have hT0 := hT.below hB0
  have haw := awake_any _ hT0
  obtain ⟨la, hla⟩ : ∃ la, leafS P T = la := ⟨_, rfl⟩
  obtain ⟨xa, hxa⟩ : ∃ xa, extS P T = xa := ⟨_, rfl⟩
  obtain ⟨ke, hke⟩ : ∃ ke, okE P.data.toList = ke := ⟨_, rfl⟩
  have hlf := fun w => leaf_any P T w (by omega) (by omega)
  have hqlf := fun w => qleaf_any P T w (by omega) (by omega)
  have hex := fun w => ext_any P T w (by omega) (by omega)
  have hqex := fun w => qext_any P T w (by omega) (by omega)
  rw [hla, hke] at hlf hqlf
  rw [hxa, hke] at hex hqex
  have HC : Hid ((∀ w, Calls Tryd.prog 8 #[.string P, .string T] w fun e w' => e = .returned (.tuple #[.string la, .int .i64 ke]) ∧ Below w.heap.size w w') ∧ (∀ w, Calls Tryd.prog 9 #[.string P, .string T] w fun e w' => e = .returned (.tuple #[.string la, .int .i64 ke]) ∧ Below w.heap.size w w') ∧ (∀ w, Calls Tryd.prog 10 #[.string P, .string T] w fun e w' => e = .returned (.tuple #[.string xa, .int .i64 ke]) ∧ Below w.heap.size w w') ∧ (∀ w, Calls Tryd.prog 11 #[.string P, .string T] w fun e w' => e = .returned (.tuple #[.string xa, .int .i64 ke]) ∧ Below w.heap.size w w')) := ⟨hlf, hqlf, hex, hqex⟩
  obtain ⟨ft, hft⟩ : ∃ ft : ByteArray, (⟨(refN T.data.toList).toArray⟩ : ByteArray) = ft := ⟨_, rfl⟩
  have hrf := fun w (h : K.Tabs w) => ref_any T w h (by omega)
  have hqrf := fun w => qref_any T w (by omega)
  rw [hft] at hrf hqrf
  have HF : Hid ((∀ w, K.Tabs w → Calls Tryd.prog 14 #[.string T] w fun e w' => e = .returned (.string ft) ∧ Below w.heap.size w w') ∧ (∀ w, Calls Tryd.prog 15 #[.string T] w fun e w' => e = .returned (.string ft) ∧ Below w.heap.size w w')) := ⟨hrf, hqrf⟩
  obtain ⟨bt, hbt⟩ : ∃ bt : ByteArray, (⟨(brL fun c => (cutR R 16 c).data.toList).toArray⟩ : ByteArray) = bt := ⟨_, rfl⟩
  have hRc : ∀ c, c < 16 → (cutR R 16 c).size ≤ 1000000 := fun c hc => by
    unfold cutR
    rw [if_pos hc]
    have := cutTo_size 40 (R c); omega
  have hbr := fun w => branch_any (cutR R 16) w hRc
  have hqbr := fun w => qbranch_any (cutR R 16) w hRc
  rw [hbt] at hbr hqbr
  obtain ⟨cs, hcs⟩ : ∃ cs, strA 16 (cutR R 16) = cs := ⟨_, rfl⟩
  rw [hcs] at hbr hqbr
  have hcz : cs.size = 16 := by rw [← hcs]; exact strA_size 16 _
  have hin : (Tryd.prog.info? 22).map (·.size) = some cs.size := by rw [hcz]; exact info16
  have HCS : Hid (strA 16 (cutR R 16) = cs) := hcs
  have HBR : Hid ((∀ w, Calls Tryd.prog 12 #[.agg cs] w fun e w' => e = .returned (.string bt) ∧ Below w.heap.size w w') ∧ (∀ w, Calls Tryd.prog 13 #[.agg cs] w fun e w' => e = .returned (.string bt) ∧ Below w.heap.size w w')) := ⟨hbr, hqbr⟩
  have HT : Hid (K.Tabs w) := hT
  clear hrs hla hxa hke hlf hqlf hex hqex hft hrf hqrf hbt hRc hbr hqbr hT hT0 hcs
  go_enter Tryd.func3, Tryd.ntmps3
  go_wp2_with fail
  refine haw.mono ?_
  rintro e w1 ⟨rfl, hB1⟩
  have h1 := K.Below.holds hB1 hH0
  have HB1 : Hid (Below w.heap.size w w1) := hB0.trans (hB1.mono hB0.size)
  clear haw hH0 hB0 hB1 hr
  go_wp2_with fail
  go_loopw [8] (fun z wr => ∃ n : Nat, n ≤ 16 ∧ z = .int .i64 (n : Nat) ∧ (∃ qs, K.Holds wr r 22 qs ∧ Hid (qs = strA 16 (cutR R n))) ∧ Hid (Below w.heap.size w wr)) (fun z _ => 16 - (intOf z).toNat)
  case atStart =>
    refine ⟨0, by omega, rfl, ⟨rs, h1, ?_⟩, HB1⟩
    show _ = _
    rw [← HRS.out]
    exact strA_congr fun i _ => by unfold cutR; rw [if_neg (Nat.not_lt_zero _)]
  case round =>
    obtain ⟨n, hn, rfl, ⟨qs, hq, HQ⟩, HB⟩ := hrel
    by_cases hlt : n < 16
    · have hlti : (n : Int) < 16 := by omega
      have hn0 : (0 : Int) ≤ n := by omega
      have hcr : wr.cell? ⟨r, n, none⟩ = some (.string (R n)) := by
        rw [hq.cell n, HQ.out, strA_get 16 _ n hlt]
        unfold cutR; rw [if_neg (Nat.lt_irrefl _)]
      have hfr : wr.frozen? ⟨r, n, none⟩ = false := hq.frozen n
      have HS1 : Hid (strA 16 (cutR R (n + 1)) = (strA 16 (cutR R n)).setIfInBounds n (.string (cutTo 40 (R n)))) := cutR_set R n hlt
      have HS2 : Hid (¬ 40 < (R n).size → strA 16 (cutR R (n + 1)) = strA 16 (cutR R n)) := cutR_same R n
      obtain ⟨x, hx⟩ : ∃ x, R n = x := ⟨_, rfl⟩
      rw [hx] at hcr HS1 HS2
      clear hx
      by_cases hl : 40 < x.size
      · have hli : (40 : Int) < x.size := by omega
        have hcut : ∀ W : World, (Instr.sliceAt 9 (.string x) none (some (.int .i64 40)) none).run Tryd.prog W = .ok (.string (x.extract 0 40)) W := fun W => slice_cut x 40 (by omega) W
        have HX2 : Hid (cutTo 40 x = x.extract 0 40) := by show _ = _; unfold cutTo; rw [if_pos hl]
        obtain ⟨y, hy⟩ : ∃ y, x.extract 0 40 = y := ⟨_, rfl⟩
        rw [hy] at hcut HX2
        clear hy hl
        go_wp2_with fail
        go_roundw
        case rel =>
          refine ⟨n + 1, by omega, by simp, ⟨_, hq.set n (.string y), ?_⟩, K.Only.fresh HB.out ((K.Only.refl r wr).set n (.string y)) HRW.out⟩
          show _ = _
          rw [HQ.out, HS1.out, HX2.out]
        case measure => simp [intOf]; omega
      · have hli : ¬ (40 : Int) < x.size := by omega
        have HQ2 : Hid (qs = strA 16 (cutR R (n + 1))) := by show _ = _; rw [HQ.out, HS2.out hl]
        clear hl
        go_wp2_with fail
        go_roundw
        case rel => exact ⟨n + 1, by omega, by simp, ⟨qs, hq, HQ2⟩, HB⟩
        case measure => simp [intOf]; omega
    · have hlti : ¬ (n : Int) < 16 := by omega
      have hn16 : n = 16 := by omega
      subst hn16
      have hqc : qs = cs := HQ.out.trans HCS.out
      rw [hqc] at hq
      clear HQ hn hlt hqc
      go_wp2_with fail
      refine (HC.out.1 _).mono ?_
      rintro e w2 ⟨rfl, hB2⟩
      go_wp2_with fail
      refine (HC.out.2.1 _).mono ?_
      rintro e w3 ⟨rfl, hB3⟩
      go_wp2_with fail
      refine (HC.out.2.2.1 _).mono ?_
      rintro e w4 ⟨rfl, hB4⟩
      go_wp2_with fail
      refine (HC.out.2.2.2 _).mono ?_
      rintro e w5 ⟨rfl, hB5⟩
      have h5 := K.Below.holds hB5 (K.Below.holds hB4 (K.Below.holds hB3 (K.Below.holds hB2 hq)))
      have hB25 := (hB2.trans (hB3.mono hB2.size))
      have hB25' := hB25.trans (hB4.mono hB25.size)
      have hB25'' := hB25'.trans (hB5.mono hB25'.size)
      have HB5 : Hid (Below w.heap.size w w5) := HB.out.trans (hB25''.mono HB.out.size)
      have hT5 := HT.out.below HB5.out
      have HX : Hid (∀ w6, Below w5.heap.size w5 w6 → K.Holds w6 r 22 cs ∧ K.Tabs w6) := fun w6 h6 => ⟨K.Below.holds h6 h5, hT5.below h6⟩
      clear hB2 hB3 hB4 hB5 hB25 hB25' hB25'' h5 hT5 hq
      go_wp2_with fail
      refine wp_region_all (fun w6 => Below w5.heap.size w5 w6) mixedP (by kernel_rfl) ((Below.refl _ _).drew) ?_
      go_big_quiet_step (fail)
      go_big_quiet_step (fail)
      go_big_quiet_step (fail)
      go_big_quiet_step (fail)
      refine cq_val rfl (.bool true) (fun w5 h5 => by go_simp) ?_
      go_frame
      go_big_quiet_step (exact fun _ => rfl)
      go_big_quiet_step (fail)
      go_big_quiet_step (fail)
      go_big_quiet_step (fail)
      refine cq_val rfl (.bool true) (fun w5 h5 => by go_simp) ?_
      go_frame
      go_big_quiet_step (exact fun _ => rfl)
      go_big_quiet_step (fail)
      go_big_quiet_step (fail)
      go_big_quiet_step (fail)
      refine cq_val rfl (.bool true) (fun w5 h5 => by go_simp) ?_
      go_frame
      go_big_quiet_step (exact fun _ => rfl)
      go_big_quiet_step (fail)
      go_big_quiet_step (fail)
      go_big_quiet_step (fail)
      refine cq_val rfl (.bool true) (fun w5 h5 => by go_simp) ?_
      go_frame
      go_big_quiet_step (exact fun _ => rfl)
      go_big_quiet_step (fail)
      refine cq_load 22 _ rfl r rfl rfl 22 cs _ (fun w5 h5 => (HX.out w5 h5).1) Tryd.underlying22 rfl hin ?_
      go_frame
      refine cq_call rfl 12 #[.agg cs] (fun _ => by go_simp) (.string bt) (fun w5 h5 => (HBR.out.1 w5).mono fun e w6 ⟨he, h6⟩ => ⟨he, h5.trans (h6.mono h5.size)⟩) ?_
      go_frame
      refine cq_load 22 _ rfl r rfl rfl 22 cs _ (fun w5 h5 => (HX.out w5 h5).1) Tryd.underlying22 rfl hin ?_
      go_frame
      refine cq_call rfl 13 #[.agg cs] (fun _ => by go_simp) (.string bt) (fun w5 h5 => (HBR.out.2 w5).mono fun e w6 ⟨he, h6⟩ => ⟨he, h5.trans (h6.mono h5.size)⟩) ?_
      go_frame
      refine cq_val rfl (.bool true) (fun w5 h5 => by go_simp) ?_
      go_frame
      go_big_quiet_step (exact fun _ => rfl)
      go_big_quiet_step (fail)
      go_big_quiet_step (fail)
      refine cq_call rfl 14 #[.string T] (fun _ => by go_simp) (.string ft) (fun w5 h5 => (HF.out.1 w5 (HX.out w5 h5).2).mono fun e w6 ⟨he, h6⟩ => ⟨he, h5.trans (h6.mono h5.size)⟩) ?_
      go_frame
      go_big_quiet_step (fail)
      refine cq_call rfl 15 #[.string T] (fun _ => by go_simp) (.string ft) (fun w5 h5 => (HF.out.2 w5).mono fun e w6 ⟨he, h6⟩ => ⟨he, h5.trans (h6.mono h5.size)⟩) ?_
      go_frame
      refine cq_val rfl (.bool true) (fun w5 h5 => by go_simp) ?_
      go_frame
      go_big_quiet_step (exact fun _ => rfl)
      go_big_quiet_step (fail)
      refine wpQuiet_nil ?_
      intro w9 hB9
      simp only [Exit.then]
      go_at_K
      go_wp2_with fail
      go_ret
      exact ⟨rfl, HB5.out.trans (hB9.mono HB5.out.size)⟩
theorem nodes_walk (path text : ByteArray) (R : Nat → ByteArray) (w : World) (hT : K.Tabs w) :
    Calls Tryd.prog 3 #[.string path, .string text, .agg (strA 16 R)] w fun e w' => e = .returned (.bool true) ∧ Below w.heap.size w w' := by
  have h1 : path.size ≤ 200 ∨ 200 < path.size := by omega
  have h2 : text.size ≤ 500 ∨ 500 < text.size := by omega
  have e1 : ∀ x : ByteArray, ∀ m, m < x.size → (x.extract 0 m).size ≤ m := fun x m _ => by rw [ByteArray.size_extract]; omega
  rcases h1 with h1 | h1 <;> rcases h2 with h2 | h2
  · exact nodes_00 path text R w hT h1 h2 (by omega) (by omega)
  · exact nodes_01 text path _ R w hT h1 (e1 text 500 h2) (by omega) (fun W => slice_cut text 500 (by omega) W) (by omega)
  · exact nodes_10 path _ text R w hT (e1 path 200 h1) h2 (fun W => slice_cut path 200 (by omega) W) (by omega) (by omega)
  · exact nodes_11 path text _ _ R w hT (e1 path 200 h1) (e1 text 500 h2) (fun W => slice_cut path 200 (by omega) W) (by omega) (fun W => slice_cut text 500 (by omega) W) (by omega)
end Go.Proofs.YtjdhdeffiigpbaaDoor
