/-
  TrieLong's walk.
-/
import Derived.Test.YtjdhdeffiigpbaaDoorTLongA
namespace Go.Proofs.YtjdhdeffiigpbaaDoor
open Go Go.RowKit Nb

set_option maxRecDepth 16000 in
set_option maxHeartbeats 16000000 in
theorem long_walk (R V : Nat → ByteArray) (n : Int) (w : World) (hT : K.Tabs w) (hn : -9223372036854775808 ≤ n ∧ n ≤ 9223372036854775807) :
    Calls Tryd.prog 6 #[.agg (strA 2 R), .agg (strA 2 V), .int .i64 n] w fun e w' => e = .returned (.bool true) ∧ Below w.heap.size w w' := by
  obtain ⟨rs, hrs⟩ : ∃ rs, strA 2 R = rs := ⟨_, rfl⟩
  obtain ⟨vs, hvs⟩ : ∃ vs, strA 2 V = vs := ⟨_, rfl⟩
  have g0 : rs[0]? = some (.string (R 0)) := by rw [← hrs]; exact strA_get 2 R 0 (by omega)
  have g1 : rs[1]? = some (.string (R 1)) := by rw [← hrs]; exact strA_get 2 R 1 (by omega)
  have g2 : vs[0]? = some (.string (V 0)) := by rw [← hvs]; exact strA_get 2 V 0 (by omega)
  have g3 : vs[1]? = some (.string (V 1)) := by rw [← hvs]; exact strA_get 2 V 1 (by omega)
  rw [hrs, hvs]
  clear hrs hvs
  obtain ⟨x0, e0⟩ : ∃ x, R 0 = x := ⟨_, rfl⟩
  obtain ⟨x1, e1⟩ : ∃ x, R 1 = x := ⟨_, rfl⟩
  obtain ⟨y0, e2⟩ : ∃ x, V 0 = x := ⟨_, rfl⟩
  obtain ⟨y1, e3⟩ : ∃ x, V 1 = x := ⟨_, rfl⟩
  rw [e0] at g0; rw [e1] at g1; rw [e2] at g2; rw [e3] at g3
  clear e0 e1 e2 e3
  have hB0 : Below w.heap.size w ((w.alloc (.cells rs 43)).alloc (.cells vs 43)) := ((Below.refl _ _).alloc (Nat.le_refl _) _).alloc (by rw [World.size_alloc]; omega) _
  have hH0 : K.Holds ((w.alloc (.cells rs 43)).alloc (.cells vs 43)) w.heap.size 43 rs := (K.Holds.new w 43 rs).alloc _
  have hH1 : K.Holds ((w.alloc (.cells rs 43)).alloc (.cells vs 43)) (w.heap.size + 1) 43 vs := by
    have := K.Holds.new (w.alloc (.cells rs 43)) 43 vs
    rwa [World.size_alloc] at this
  have haw := awake_any _ (hT.below hB0)
  obtain ⟨r, hr⟩ : ∃ r, w.heap.size = r := ⟨_, rfl⟩
  rw [hr] at hH0 hH1
  have hz := zeroSum14
  obtain ⟨zs, hzs⟩ : ∃ zs, K.bytesA 32 (fun _ => 0) = zs := ⟨_, rfl⟩
  have hzz : zs.size = 32 := by rw [← hzs]; exact K.bytesA_size 32 _
  rw [hzs] at hz
  clear hzs
  have hrp := run_pairs2
  have hrp1 := run_pair
  have hrp2 := run_pair1
  have hz16 := zero16
  obtain ⟨zt, hzt⟩ : ∃ zt, strA 16 (fun _ => (⟨#[]⟩ : ByteArray)) = zt := ⟨_, rfl⟩
  rw [hzt] at hz16
  have HZT : Hid (strA 16 (fun _ => (⟨#[]⟩ : ByteArray)) = zt) := hzt
  have HT : Hid (K.Tabs w) := hT
  clear hT hzt
  go_enter Tryd.func6, Tryd.ntmps6
  go_wp2_with fail
  refine haw.mono ?_
  rintro e w1 ⟨rfl, hB1⟩
  have h1 := K.Below.holds hB1 hH0
  have h2 := K.Below.holds hB1 hH1
  have d0 : w1.cell? ⟨r, 0, none⟩ = some (.string x0) := (h1.cell 0).trans g0
  have d1 : w1.cell? ⟨r, 1, none⟩ = some (.string x1) := (h1.cell 1).trans g1
  have d2 : w1.cell? ⟨r + 1, 0, none⟩ = some (.string y0) := (h2.cell 0).trans g2
  have d3 : w1.cell? ⟨r + 1, 1, none⟩ = some (.string y1) := (h2.cell 1).trans g3
  have HB1 : Hid (Below w.heap.size w w1) := hB0.trans (hB1.mono hB0.size)
  clear haw hH0 hH1 hB0 hB1 g0 g1 g2 g3 h1 h2
  have hBp : Below w1.heap.size w1 (w1.alloc (.cells #[.string x0, .string y0, .string x1, .string y1] 33)) := (Below.refl _ _).alloc (Nat.le_refl _) _
  have hPw : PairsAt (w1.alloc (.cells #[.string x0, .string y0, .string x1, .string y1] 33)) (.slice (some ⟨w1.heap.size, 0, none⟩) 2 2) [(x0, y0), (x1, y1)] := by
    have hh := K.Holds.new w1 33 #[.string x0, .string y0, .string x1, .string y1]
    refine .inr ⟨w1.heap.size, 0, 2, rfl, Nat.le_refl _, fun i x hx => ?_⟩
    match i, hx with
    | 0, hx => obtain rfl := Option.some.inj hx; exact ⟨(hh.cell 0).trans rfl, (hh.cell 1).trans rfl⟩
    | 1, hx => obtain rfl := Option.some.inj hx; exact ⟨(hh.cell 2).trans rfl, (hh.cell 3).trans rfl⟩
  have hmd := made_any _ _ n _ hPw hn (by simp)
  have HBP : Hid (Below w.heap.size w (w1.alloc (.cells #[.string x0, .string y0, .string x1, .string y1] 33))) := HB1.out.trans (hBp.mono HB1.out.size)
  clear hPw hBp
  go_wp2_with fail
  refine hmd.mono ?_
  rintro e w2 ⟨v', L, m, rfl, hO, hM, hB2⟩
  have HB2 : Hid (Below w.heap.size w w2) := HBP.out.trans (hB2.mono HBP.out.size)
  have hP := hO.at
  obtain ⟨pn, cn, rfl⟩ := hP.shape
  clear hmd hB2 HBP HB1 d0 d1 d2 d3 hO hr
  by_cases hL2 : L.length = 2
  · obtain ⟨⟨a1, a2⟩, ⟨b1, b2⟩, rfl⟩ : ∃ a b, L = [a, b] := by
      match L, hL2 with
      | [a, b], _ => exact ⟨a, b, rfl⟩
    have hT2 := HT.out.below HB2.out
    obtain ⟨g, o, hpn, _, hxa⟩ := hP.at (i := 0) (x := (a1, a2)) rfl
    obtain ⟨g', o', hpn', _, hxb⟩ := hP.at (i := 1) (x := (b1, b2)) rfl
    subst hpn
    injection hpn' with hpn'
    injection hpn' with hb1 hb2 _
    subst hb1 hb2
    obtain ⟨p, n0, n1, la, A, B, ta, tb, ra, rb, bt, P, xt, nd, on, tw, cs0, cs1, cs2, HL0⟩ := long_is hP hT2 hM
    have HL : Hid (LongIs w2 g o cn m p n0 n1 a1 a2 b1 b2 la A B ta tb ra rb bt P xt nd on tw cs0 cs1 cs2) := HL0
    have c0 : w2.cell? ⟨g, o, none⟩ = some (.string a1) := by have := hxa.1; rwa [Nat.zero_mul, Nat.add_zero] at this
    have c1 : w2.cell? ⟨g, o + 1, none⟩ = some (.string a2) := by have := hxa.2; rwa [Nat.zero_mul, Nat.add_zero] at this
    have hlt2 : g < w2.heap.size := World.block_lt_of_cell? w2 _ c0
    have HC : Hid (∀ W, Below w2.heap.size w2 W → W.cell? ⟨g, o, none⟩ = some (.string a1) ∧ W.cell? ⟨g, o + 1, none⟩ = some (.string a2) ∧ W.cell? ⟨g, o + 2, none⟩ = some (.string b1) ∧ W.cell? ⟨g, o + 2 + 1, none⟩ = some (.string b2) ∧ K.Tabs W) := fun W hW => by
      have qb := hxb.below hW
      have qa := hxa.below hW
      obtain ⟨q1, q2⟩ := qa
      rw [Nat.zero_mul, Nat.add_zero] at q1 q2
      exact ⟨q1, q2, qb.1, qb.2, hT2.below hW⟩
    have hin1 : (Tryd.prog.info? 40).map (·.size) = some on.size := by rw [HL.out.sums.1]; exact infoSum14
    have hin2 : (Tryd.prog.info? 40).map (·.size) = some tw.size := by rw [HL.out.sums.2.1]; exact infoSum14
    have hrt := HL.out.root1 w2 hT2
    clear HL0 hxa hxb hP hM hL2 hT2 hlt2 HT
    go_wp2_with fail
    refine hrt.mono ?_
    rintro e w3 ⟨rfl, hB3⟩
    obtain ⟨q9, hq9⟩ : ∃ q9, w3.heap.size = q9 := ⟨_, rfl⟩
    have hq9w : w2.heap.size ≤ q9 := hq9 ▸ hB3.size
    dsimp only
    clear hrt c0 c1
    go_wp2_with (first
      | (refine K.wpList_storeH rfl 40 _ _ rfl q9 on rfl rfl 40 zs (hq9 ▸ K.Holds.new _ _ _) hin1 (by rw [hzz, HL.out.sums.1]) HL.out.sums.2.2.1 ?_
         intro w4 h4 o4 z4
         have hB4 : Below w2.heap.size w2 w4 := K.Only.fresh (hB3.trans (((Below.refl _ _).alloc (Nat.le_refl _) _).mono hB3.size)) o4 hq9w
         have HB4 : Hid (Below w2.heap.size w2 w4 ∧ K.Holds w4 q9 40 on) := ⟨hB4, h4⟩
         clear h4 o4 z4 hB4 hB3 hq9w hq9)
      | fail)
    have HCL : Hid (∀ W, Below w4.heap.size w4 W → W.cell? ⟨g, o, none⟩ = some (.string a1) ∧ W.cell? ⟨g, o + 1, none⟩ = some (.string a2) ∧ W.cell? ⟨g, o + 2, none⟩ = some (.string b1) ∧ W.cell? ⟨g, o + 2 + 1, none⟩ = some (.string b2) ∧ K.Tabs W) := fun W hW => HC.out W (HB4.out.1.trans (hW.mono HB4.out.1.size))
    refine wp_region_all (fun w5 => Below w4.heap.size w4 w5) mixedP (by kernel_rfl) ((Below.refl _ _).drew) ?_
    go_big_quiet_step (fail)
    refine cq_val rfl (.pointer (some ⟨g, o, none⟩)) (fun w5 h5 => by go_simp) ?_
    go_frame
    refine cq_val rfl (.pointer (some ⟨g, o, none⟩)) (fun w5 h5 => by go_simp) ?_
    go_frame
    refine cq_val rfl (.string a1) (fun w5 h5 => by have q := (HCL.out w5 h5).1; go_simp) ?_
    go_frame
    go_big_quiet_step (fail)
    refine cq_val rfl (.pointer (some ⟨g, o, none⟩)) (fun w5 h5 => by go_simp) ?_
    go_frame
    refine cq_val rfl (.pointer (some ⟨g, o + 1, none⟩)) (fun w5 h5 => by go_simp) ?_
    go_frame
    refine cq_val rfl (.string a2) (fun w5 h5 => by have q := (HCL.out w5 h5).2.1; go_simp) ?_
    go_frame
    refine cq_call rfl 8 #[.string a1, .string a2] (fun _ => by go_simp) (.tuple #[.string la, .int .i64 0]) (fun w5 h5 => (HL.out.leaf w5).mono fun e w6 ⟨he, h6⟩ => ⟨he, h5.trans (h6.mono h5.size)⟩) ?_
    go_frame
    go_big_quiet_step (fail)
    refine cq_val rfl (.string la) (fun w5 h5 => by go_simp) ?_
    go_frame
    refine cq_val rfl (.int .i64 0) (fun w5 h5 => by go_simp) ?_
    go_frame
    go_big_quiet_step (fail)
    go_big_quiet_step (fail)
    refine wpQuiet_nil ?_
    intro w5 hB5
    simp only [Exit.then]
    go_at_K
    have HB5 : Hid (Below w2.heap.size w2 w5 ∧ K.Holds w5 q9 40 on) := ⟨HB4.out.1.trans (hB5.mono HB4.out.1.size), K.Below.holds hB5 HB4.out.2⟩
    clear hB5 HB4 HCL
    go_wp2_with fail
    have HSM : Hid (∀ W, Below w5.heap.size w5 W → K.Holds W q9 40 on) := fun W hW => K.Below.holds hW HB5.out.2
    refine wp_region_all (fun w6 => Below w5.heap.size w5 w6) mixedP (by kernel_rfl) ((Below.refl _ _).drew) ?_
    go_big_quiet_step (fail)
    refine cq_val rfl (.bool false) (fun w5 h5 => by go_simp) ?_
    go_frame
    go_big_quiet_step (fail)
    go_big_quiet_step (fail)
    refine cq_val rfl (.bool false) (fun w5 h5 => by go_simp) ?_
    go_frame
    go_big_quiet_step (exact fun _ => rfl)
    go_big_quiet_step (fail)
    refine cq_load 40 _ rfl q9 rfl rfl 40 on _ (fun w5 h5 => HSM.out w5 h5) Tryd.underlying40 rfl hin1 ?_
    go_frame
    go_big_quiet_step (fail)
    refine cq_call rfl 25 #[.string la] (fun _ => by go_simp) (.agg on) (fun w5 h5 => (HL.out.sum1 w5).mono fun e w6 ⟨he, h6⟩ => ⟨he, h5.trans (h6.mono h5.size)⟩) ?_
    go_frame
    refine cq_neqS 40 _ _ _ rfl on on rfl rfl rfl true K.guardSum (fun w5 _ => HL.out.eq1 w5) ?_
    go_frame
    go_big_quiet_step (exact fun _ => rfl)
    refine wpQuiet_nil ?_
    intro w6 hB6
    simp only [Exit.then]
    go_at_K
    have HB6 : Hid (Below w2.heap.size w2 w6) := HB5.out.1.trans (hB6.mono HB5.out.1.size)
    clear hB6 HB5 HSM hin1
    go_wp2_with fail
    have HCL : Hid (∀ W, Below w6.heap.size w6 W → W.cell? ⟨g, o, none⟩ = some (.string a1) ∧ W.cell? ⟨g, o + 1, none⟩ = some (.string a2) ∧ W.cell? ⟨g, o + 2, none⟩ = some (.string b1) ∧ W.cell? ⟨g, o + 2 + 1, none⟩ = some (.string b2) ∧ K.Tabs W) := fun W hW => HC.out W (HB6.out.trans (hW.mono HB6.out.size))
    refine wp_region_all (fun w7 => Below w6.heap.size w6 w7) mixedP (by kernel_rfl) ((Below.refl _ _).drew) ?_
    go_big_quiet_step (fail)
    refine cq_val rfl (.pointer (some ⟨g, o, none⟩)) (fun w5 h5 => by go_simp) ?_
    go_frame
    refine cq_val rfl (.pointer (some ⟨g, o, none⟩)) (fun w5 h5 => by go_simp) ?_
    go_frame
    refine cq_val rfl (.string a1) (fun w5 h5 => by have q := (HCL.out w5 h5).1; go_simp) ?_
    go_frame
    go_big_quiet_step (fail)
    refine cq_val rfl (.pointer (some ⟨g, o + 2, none⟩)) (fun w5 h5 => by go_simp) ?_
    go_frame
    refine cq_val rfl (.pointer (some ⟨g, o + 2, none⟩)) (fun w5 h5 => by go_simp) ?_
    go_frame
    refine cq_val rfl (.string b1) (fun w5 h5 => by have q := (HCL.out w5 h5).2.2.1; go_simp) ?_
    go_frame
    refine cq_call rfl 19 #[.string a1, .string b1] (fun _ => by go_simp) (.int .i64 (p : Nat)) (fun w5 h5 => (HL.out.prefx w5).mono fun e w6 ⟨he, h6⟩ => ⟨he, h5.trans (h6.mono h5.size)⟩) ?_
    go_frame
    go_big_quiet_step (fail)
    refine wpQuiet_nil ?_
    intro w7 hB7
    simp only [Exit.then]
    go_at_K
    have HB7 : Hid (Below w2.heap.size w2 w7) := HB6.out.trans (hB7.mono HB6.out.size)
    obtain ⟨rg, hrg⟩ : ∃ rg, w7.heap.size = rg := ⟨_, rfl⟩
    have hH7 : K.Holds (w7.alloc (.cells zt 22)) rg 22 zt := hrg ▸ K.Holds.new w7 22 zt
    have HB8 : Hid (Below w2.heap.size w2 (w7.alloc (.cells zt 22))) := HB7.out.alloc HB7.out.size _
    have HRG : Hid (w2.heap.size ≤ rg) := by have := HB7.out.size; show _ ≤ _; omega
    have hz0 : zt = cs0 := HZT.out.symm.trans HL.out.refs.1.symm
    obtain ⟨p1, hp1⟩ : ∃ p1, p + 1 = p1 := ⟨_, rfl⟩
    have hp2 : (p : Int) + 1 = (p1 : Int) := by omega
    have hsz := HL.out.sizes
    have hp3 : IntKind.i64.wrap (p1 : Int) = (p1 : Int) := by rw [IntKind.wrap_i64]; omega
    have hp00 : (0 : Int) ≤ p := by omega
    have hpa : p < a1.size := by omega
    have hpb : p < b1.size := by omega
    have hpai : (p : Int) < a1.size := by omega
    have hpbi : (p : Int) < b1.size := by omega
    have HNA : Hid (n0 = (a1[p]).toNat) := HL.out.nibA.2.symm
    have HNB : Hid (n1 = (b1[p]).toNat) := HL.out.nibB.2.symm
    have hn0i : (n0 : Int) < 16 := by have := HL.out.nibs.1; omega
    have hn1i : (n1 : Int) < 16 := by have := HL.out.nibs.2; omega
    have hSA := HL.out.sliceA
    have hSB := HL.out.sliceB
    rw [hp1] at hSA hSB
    have HSA : Hid (∀ W : World, (Instr.sliceAt 9 (.string a1) (some (.int .i64 (p1 : Int))) none none).run Tryd.prog W = .ok (.string A) W) := hSA
    have HSB : Hid (∀ W : World, (Instr.sliceAt 9 (.string b1) (some (.int .i64 (p1 : Int))) none none).run Tryd.prog W = .ok (.string B) W) := hSB
    have HCUT : Hid (∀ W : World, (Instr.sliceAt 9 (.string a1) none (some (.int .i64 (p : Int))) none).run Tryd.prog W = .ok (.string P) W) := HL.out.cut
    have HCSA : Hid (cs1 = cs0.setIfInBounds n0 (.string ra)) := HL.out.refs.2.1
    have HCSB : Hid (cs2 = cs1.setIfInBounds n1 (.string rb)) := HL.out.refs.2.2.1
    have HP1 : Hid (p + 1 = p1) := hp1
    clear hB7 HB6 HB7 HCL hSA hSB hsz hp1
    go_wp2_with fail
    rw [hz0] at hH7 HB8
    go_loopw [15] (fun z wr => ((z = .int .i64 0 ∧ K.Holds wr rg 22 cs0) ∨ (z = .int .i64 1 ∧ K.Holds wr rg 22 cs1) ∨ (z = .int .i64 2 ∧ K.Holds wr rg 22 cs2)) ∧ Hid (Below w2.heap.size w2 wr)) (fun z _ => 2 - (intOf z).toNat)
    case atStart => exact ⟨.inl ⟨rfl, hH7⟩, HB8⟩
    case round =>
      clear hH7 HB8 hz0 HZT
      obtain ⟨⟨rfl, hr⟩ | ⟨rfl, hr⟩ | ⟨rfl, hr⟩, HB⟩ := hrel
      · have HCL : Hid (∀ W, Below wr.heap.size wr W → W.cell? ⟨g, o, none⟩ = some (.string a1) ∧ W.cell? ⟨g, o + 1, none⟩ = some (.string a2) ∧ W.cell? ⟨g, o + 2, none⟩ = some (.string b1) ∧ W.cell? ⟨g, o + 2 + 1, none⟩ = some (.string b2) ∧ K.Tabs W) := fun W hW => HC.out W (HB.out.trans (hW.mono HB.out.size))
        go_wp2_with fail
        refine wp_region_all (fun w5 => Below wr.heap.size wr w5) mixedP (by kernel_rfl) ((Below.refl _ _).drew) ?_
        go_big_quiet_step (fail)
        go_big_quiet_step (fail)
        refine cq_val rfl (.pointer (some ⟨g, o, none⟩)) (fun w5 h5 => by go_simp) ?_
        go_frame
        refine cq_val rfl (.pointer (some ⟨g, o, none⟩)) (fun w5 h5 => by go_simp) ?_
        go_frame
        refine cq_val rfl (.string a1) (fun w5 h5 => by have q := (HCL.out w5 h5).1; go_simp) ?_
        go_frame
        go_big_quiet_step (fail)
        refine cq_val rfl (.int .i64 (p1 : Nat)) (fun w5 h5 => by have e := hp2; go_simp) ?_
        go_frame
        refine cq_val rfl (.string A) (fun w5 h5 => by have q := HSA.out; go_simp) ?_
        go_frame
        go_big_quiet_step (fail)
        go_big_quiet_step (fail)
        refine cq_val rfl (.pointer (some ⟨g, o, none⟩)) (fun w5 h5 => by go_simp) ?_
        go_frame
        refine cq_val rfl (.pointer (some ⟨g, o + 1, none⟩)) (fun w5 h5 => by go_simp) ?_
        go_frame
        refine cq_val rfl (.string a2) (fun w5 h5 => by have q := (HCL.out w5 h5).2.1; go_simp) ?_
        go_frame
        refine cq_call rfl 8 #[.string A, .string a2] (fun _ => by go_simp) (.tuple #[.string ta, .int .i64 0]) (fun w5 h5 => (HL.out.leafA w5).mono fun e w6 ⟨he, h6⟩ => ⟨he, h5.trans (h6.mono h5.size)⟩) ?_
        go_frame
        go_big_quiet_step (fail)
        refine cq_val rfl (.string ta) (fun w5 h5 => by go_simp) ?_
        go_frame
        refine cq_val rfl (.int .i64 0) (fun w5 h5 => by go_simp) ?_
        go_frame
        go_big_quiet_step (fail)
        go_big_quiet_step (fail)
        refine wpQuiet_nil ?_
        intro wx hBx
        simp only [Exit.then]
        go_at_K
        have hrx := K.Below.holds hBx hr
        have HBX : Hid (Below w2.heap.size w2 wx) := HB.out.trans (hBx.mono HB.out.size)
        clear hBx hr HCL
        go_wp2_with fail
        have HCL : Hid (∀ W, Below wx.heap.size wx W → W.cell? ⟨g, o, none⟩ = some (.string a1) ∧ W.cell? ⟨g, o + 1, none⟩ = some (.string a2) ∧ W.cell? ⟨g, o + 2, none⟩ = some (.string b1) ∧ W.cell? ⟨g, o + 2 + 1, none⟩ = some (.string b2) ∧ K.Tabs W) := fun W hW => HC.out W (HBX.out.trans (hW.mono HBX.out.size))
        refine wp_region_ctail (fun w5 => Below wx.heap.size wx w5) 10 mixedP (by kernel_rfl) ((Below.refl _ _).drew) ?_
        simp only [List.take_succ_cons, List.take_zero, List.drop_succ_cons, List.drop_zero]
        go_big_quiet_step (fail)
        go_big_quiet_step (fail)
        refine cq_val rfl (.pointer (some ⟨g, o, none⟩)) (fun w5 h5 => by go_simp) ?_
        go_frame
        refine cq_val rfl (.pointer (some ⟨g, o, none⟩)) (fun w5 h5 => by go_simp) ?_
        go_frame
        refine cq_val rfl (.string a1) (fun w5 h5 => by have q := (HCL.out w5 h5).1; go_simp) ?_
        go_frame
        go_big_quiet_step (fail)
        refine cq_val rfl (.int .u8 (n0 : Nat)) (fun w5 h5 => by have e := HNA.out; go_simp) ?_
        go_frame
        go_big_quiet_step (fail)
        refine cq_call rfl 14 #[.string ta] (fun _ => by go_simp) (.string ra) (fun w5 h5 => (HL.out.refA w5 (HCL.out w5 h5).2.2.2.2).mono fun e w6 ⟨he, h6⟩ => ⟨he, h5.trans (h6.mono h5.size)⟩) ?_
        go_frame
        refine cq_val rfl (.pointer (some ⟨rg, n0, none⟩)) (fun w5 h5 => by have e := hn0i; go_simp) ?_
        go_frame
        refine wpQuiet_nil ?_
        intro w4 h4
        have hr4 := K.Below.holds h4 hrx
        obtain ⟨old, hold⟩ : ∃ old, cs0[n0]? = some old := ⟨_, Array.getElem?_eq_getElem (by have := HL.out.refs.2.2.2.1; have := HL.out.refs.2.2.2.2.1; have := HL.out.nibs; omega)⟩
        have h4c : w4.cell? ⟨rg, n0, none⟩ = some old := by rw [hr4.cell n0]; exact hold
        have h4f := hr4.frozen n0
        have HB4 : Hid (Below w2.heap.size w2 w4) := HBX.out.trans (h4.mono HBX.out.size)
        clear hold h4 hrx HBX HCL HB
        go_wp2_with fail
        go_roundw
        case rel =>
          have hO := (K.Only.refl rg w4).set n0 (.string ra)
          have hB5 : Below w2.heap.size w2 (w4.setCell ⟨rg, n0, none⟩ (.string ra)) := K.Only.fresh HB4.out hO HRG.out
          have h6 := hr4.set n0 (.string ra)
          rw [← HCSA.out] at h6
          exact ⟨.inr (.inl ⟨rfl, h6⟩), hB5⟩
        case measure => simp [intOf]
      · have HCL : Hid (∀ W, Below wr.heap.size wr W → W.cell? ⟨g, o, none⟩ = some (.string a1) ∧ W.cell? ⟨g, o + 1, none⟩ = some (.string a2) ∧ W.cell? ⟨g, o + 2, none⟩ = some (.string b1) ∧ W.cell? ⟨g, o + 2 + 1, none⟩ = some (.string b2) ∧ K.Tabs W) := fun W hW => HC.out W (HB.out.trans (hW.mono HB.out.size))
        go_wp2_with fail
        refine wp_region_all (fun w5 => Below wr.heap.size wr w5) mixedP (by kernel_rfl) ((Below.refl _ _).drew) ?_
        go_big_quiet_step (fail)
        go_big_quiet_step (fail)
        refine cq_val rfl (.pointer (some ⟨g, o + 2, none⟩)) (fun w5 h5 => by go_simp) ?_
        go_frame
        refine cq_val rfl (.pointer (some ⟨g, o + 2, none⟩)) (fun w5 h5 => by go_simp) ?_
        go_frame
        refine cq_val rfl (.string b1) (fun w5 h5 => by have q := (HCL.out w5 h5).2.2.1; go_simp) ?_
        go_frame
        go_big_quiet_step (fail)
        refine cq_val rfl (.int .i64 (p1 : Nat)) (fun w5 h5 => by have e := hp2; go_simp) ?_
        go_frame
        refine cq_val rfl (.string B) (fun w5 h5 => by have q := HSB.out; go_simp) ?_
        go_frame
        go_big_quiet_step (fail)
        go_big_quiet_step (fail)
        refine cq_val rfl (.pointer (some ⟨g, o + 2, none⟩)) (fun w5 h5 => by go_simp) ?_
        go_frame
        refine cq_val rfl (.pointer (some ⟨g, o + 2 + 1, none⟩)) (fun w5 h5 => by go_simp) ?_
        go_frame
        refine cq_val rfl (.string b2) (fun w5 h5 => by have q := (HCL.out w5 h5).2.2.2.1; go_simp) ?_
        go_frame
        refine cq_call rfl 8 #[.string B, .string b2] (fun _ => by go_simp) (.tuple #[.string tb, .int .i64 0]) (fun w5 h5 => (HL.out.leafB w5).mono fun e w6 ⟨he, h6⟩ => ⟨he, h5.trans (h6.mono h5.size)⟩) ?_
        go_frame
        go_big_quiet_step (fail)
        refine cq_val rfl (.string tb) (fun w5 h5 => by go_simp) ?_
        go_frame
        refine cq_val rfl (.int .i64 0) (fun w5 h5 => by go_simp) ?_
        go_frame
        go_big_quiet_step (fail)
        go_big_quiet_step (fail)
        refine wpQuiet_nil ?_
        intro wx hBx
        simp only [Exit.then]
        go_at_K
        have hrx := K.Below.holds hBx hr
        have HBX : Hid (Below w2.heap.size w2 wx) := HB.out.trans (hBx.mono HB.out.size)
        clear hBx hr HCL
        go_wp2_with fail
        have HCL : Hid (∀ W, Below wx.heap.size wx W → W.cell? ⟨g, o, none⟩ = some (.string a1) ∧ W.cell? ⟨g, o + 1, none⟩ = some (.string a2) ∧ W.cell? ⟨g, o + 2, none⟩ = some (.string b1) ∧ W.cell? ⟨g, o + 2 + 1, none⟩ = some (.string b2) ∧ K.Tabs W) := fun W hW => HC.out W (HBX.out.trans (hW.mono HBX.out.size))
        refine wp_region_ctail (fun w5 => Below wx.heap.size wx w5) 10 mixedP (by kernel_rfl) ((Below.refl _ _).drew) ?_
        simp only [List.take_succ_cons, List.take_zero, List.drop_succ_cons, List.drop_zero]
        go_big_quiet_step (fail)
        go_big_quiet_step (fail)
        refine cq_val rfl (.pointer (some ⟨g, o + 2, none⟩)) (fun w5 h5 => by go_simp) ?_
        go_frame
        refine cq_val rfl (.pointer (some ⟨g, o + 2, none⟩)) (fun w5 h5 => by go_simp) ?_
        go_frame
        refine cq_val rfl (.string b1) (fun w5 h5 => by have q := (HCL.out w5 h5).2.2.1; go_simp) ?_
        go_frame
        go_big_quiet_step (fail)
        refine cq_val rfl (.int .u8 (n1 : Nat)) (fun w5 h5 => by have e := HNB.out; go_simp) ?_
        go_frame
        go_big_quiet_step (fail)
        refine cq_call rfl 14 #[.string tb] (fun _ => by go_simp) (.string rb) (fun w5 h5 => (HL.out.refB w5 (HCL.out w5 h5).2.2.2.2).mono fun e w6 ⟨he, h6⟩ => ⟨he, h5.trans (h6.mono h5.size)⟩) ?_
        go_frame
        refine cq_val rfl (.pointer (some ⟨rg, n1, none⟩)) (fun w5 h5 => by have e := hn1i; go_simp) ?_
        go_frame
        refine wpQuiet_nil ?_
        intro w4 h4
        have hr4 := K.Below.holds h4 hrx
        obtain ⟨old, hold⟩ : ∃ old, cs1[n1]? = some old := ⟨_, Array.getElem?_eq_getElem (by have := HL.out.refs.2.2.2.1; have := HL.out.refs.2.2.2.2.1; have := HL.out.nibs; omega)⟩
        have h4c : w4.cell? ⟨rg, n1, none⟩ = some old := by rw [hr4.cell n1]; exact hold
        have h4f := hr4.frozen n1
        have HB4 : Hid (Below w2.heap.size w2 w4) := HBX.out.trans (h4.mono HBX.out.size)
        clear hold h4 hrx HBX HCL HB
        go_wp2_with fail
        go_roundw
        case rel =>
          have hO := (K.Only.refl rg w4).set n1 (.string rb)
          have hB5 : Below w2.heap.size w2 (w4.setCell ⟨rg, n1, none⟩ (.string rb)) := K.Only.fresh HB4.out hO HRG.out
          have h6 := hr4.set n1 (.string rb)
          rw [← HCSB.out] at h6
          exact ⟨.inr (.inr ⟨rfl, h6⟩), hB5⟩
        case measure => simp [intOf]
      · have hins : (Tryd.prog.info? 22).map (·.size) = some cs2.size := by rw [HL.out.refs.2.2.2.2.2]; exact info16
        have hbr := HL.out.branch wr
        go_wp2_with (first
          | (refine K.wpList_loadH rfl 22 _ rfl rg rfl 22 cs2 _ hr Tryd.underlying22 rfl hins ?_)
          | fail)
        refine hbr.mono ?_
        rintro e wz ⟨rfl, hBz⟩
        have HBZ : Hid (Below w2.heap.size w2 wz) := HB.out.trans (hBz.mono HB.out.size)
        clear hbr hBz hr HB
        by_cases hpp : 0 < p
        · have hppi : (p : Int) > 0 := by omega
          have HPP : Hid (0 < p) := hpp
          clear hpp
          have HCL : Hid (∀ W, Below wz.heap.size wz W → W.cell? ⟨g, o, none⟩ = some (.string a1) ∧ W.cell? ⟨g, o + 1, none⟩ = some (.string a2) ∧ W.cell? ⟨g, o + 2, none⟩ = some (.string b1) ∧ W.cell? ⟨g, o + 2 + 1, none⟩ = some (.string b2) ∧ K.Tabs W) := fun W hW => HC.out W (HBZ.out.trans (hW.mono HBZ.out.size))
          go_wp2_with fail
          refine wp_region_all (fun w5 => Below wz.heap.size wz w5) mixedP (by kernel_rfl) ((Below.refl _ _).drew) ?_
          go_big_quiet_step (fail)
          refine cq_val rfl (.pointer (some ⟨g, o, none⟩)) (fun w5 h5 => by go_simp) ?_
          go_frame
          refine cq_val rfl (.pointer (some ⟨g, o, none⟩)) (fun w5 h5 => by go_simp) ?_
          go_frame
          refine cq_val rfl (.string a1) (fun w5 h5 => by have q := (HCL.out w5 h5).1; go_simp) ?_
          go_frame
          go_big_quiet_step (fail)
          refine cq_val rfl (.string P) (fun w5 h5 => by have q := HCUT.out; go_simp) ?_
          go_frame
          go_big_quiet_step (fail)
          refine cq_call rfl 14 #[.string bt] (fun _ => by go_simp) (.string xt) (fun w5 h5 => (HL.out.refX w5 (HCL.out w5 h5).2.2.2.2).mono fun e w6 ⟨he, h6⟩ => ⟨he, h5.trans (h6.mono h5.size)⟩) ?_
          go_frame
          refine cq_call rfl 10 #[.string P, .string xt] (fun _ => by go_simp) (.tuple #[.string nd, .int .i64 0]) (fun w5 h5 => (HL.out.ext HPP.out w5).mono fun e w6 ⟨he, h6⟩ => ⟨he, h5.trans (h6.mono h5.size)⟩) ?_
          go_frame
          go_big_quiet_step (fail)
          refine cq_val rfl (.string nd) (fun w5 h5 => by go_simp) ?_
          go_frame
          refine cq_val rfl (.int .i64 0) (fun w5 h5 => by go_simp) ?_
          go_frame
          go_big_quiet_step (fail)
          refine wpQuiet_nil ?_
          intro wa hBza
          simp only [Exit.then]
          go_at_K
          have hBa : Below w2.heap.size w2 wa := HBZ.out.trans (hBza.mono HBZ.out.size)
          clear hBza HCL HBZ
          have HBA : Hid (Below w2.heap.size w2 wa) := hBa
          clear hBa
          go_wp2_with fail
          refine (HL.out.root2 _ HBA.out).mono ?_
          rintro e wb ⟨rfl, hBb⟩
          have hBb2 : Below w2.heap.size w2 wb := HBA.out.trans (hBb.mono HBA.out.size)
          obtain ⟨q8, hq8⟩ : ∃ q8, wb.heap.size = q8 := ⟨_, rfl⟩
          have hq8w : w2.heap.size ≤ q8 := hq8 ▸ hBb2.size
          dsimp only
          clear hBb HBA
          go_wp2_with (first
            | (refine K.wpList_storeH rfl 40 _ _ rfl q8 tw rfl rfl 40 zs (hq8 ▸ K.Holds.new _ _ _) hin2 (by rw [hzz, HL.out.sums.2.1]) HL.out.sums.2.2.2 ?_
               intro wc hc oc zc
               have hBc : Below w2.heap.size w2 wc := K.Only.fresh (hBb2.trans (((Below.refl _ _).alloc (Nat.le_refl _) _).mono hBb2.size)) oc hq8w
               have HBC : Hid (Below w2.heap.size w2 wc ∧ K.Holds wc q8 40 tw) := ⟨hBc, hc⟩
               clear hc oc zc hBc hBb2 hq8w hq8)
            | fail)
          have HSM : Hid (∀ W, Below wc.heap.size wc W → K.Holds W q8 40 tw) := fun W hW => K.Below.holds hW HBC.out.2
          refine wp_region_all (fun w5 => Below wc.heap.size wc w5) mixedP (by kernel_rfl) ((Below.refl _ _).drew) ?_
          go_big_quiet_step (fail)
          go_big_quiet_step (fail)
          go_big_quiet_step (fail)
          refine cq_val rfl (.bool true) (fun w5 h5 => by go_simp) ?_
          go_frame
          go_big_quiet_step (exact fun _ => rfl)
          go_big_quiet_step (fail)
          refine cq_load 40 _ rfl q8 rfl rfl 40 tw _ (fun w5 h5 => HSM.out w5 h5) Tryd.underlying40 rfl hin2 ?_
          go_frame
          go_big_quiet_step (fail)
          refine cq_call rfl 25 #[.string nd] (fun _ => by go_simp) (.agg tw) (fun w5 h5 => (HL.out.sum2 w5).mono fun e w6 ⟨he, h6⟩ => ⟨he, h5.trans (h6.mono h5.size)⟩) ?_
          go_frame
          refine cq_eqlS 40 _ _ _ rfl tw tw rfl rfl rfl true K.guardSum (fun w5 _ => HL.out.eq2 w5) ?_
          go_frame
          go_big_quiet_step (exact fun _ => rfl)
          go_big_quiet_step (fail)
          refine wpQuiet_nil ?_
          intro w9 hB9
          simp only [Exit.then]
          go_at_K
          go_wp2_with fail
          go_ret
          exact ⟨rfl, HB2.out.trans ((HBC.out.1.trans (hB9.mono HBC.out.1.size)).mono HB2.out.size)⟩
        · have hppi : ¬ (p : Int) > 0 := by omega
          have hnd := (HL.out.noExt hpp).symm
          subst hnd
          obtain ⟨wa, hwa⟩ : ∃ wa, wa = wz := ⟨_, rfl⟩
          rw [← hwa] at HBZ ⊢
          have hBa : Below w2.heap.size w2 wa := HBZ.out
          clear hpp HBZ hwa
          have HBA : Hid (Below w2.heap.size w2 wa) := hBa
          clear hBa
          go_wp2_with fail
          refine (HL.out.root2 _ HBA.out).mono ?_
          rintro e wb ⟨rfl, hBb⟩
          have hBb2 : Below w2.heap.size w2 wb := HBA.out.trans (hBb.mono HBA.out.size)
          obtain ⟨q8, hq8⟩ : ∃ q8, wb.heap.size = q8 := ⟨_, rfl⟩
          have hq8w : w2.heap.size ≤ q8 := hq8 ▸ hBb2.size
          dsimp only
          clear hBb HBA
          go_wp2_with (first
            | (refine K.wpList_storeH rfl 40 _ _ rfl q8 tw rfl rfl 40 zs (hq8 ▸ K.Holds.new _ _ _) hin2 (by rw [hzz, HL.out.sums.2.1]) HL.out.sums.2.2.2 ?_
               intro wc hc oc zc
               have hBc : Below w2.heap.size w2 wc := K.Only.fresh (hBb2.trans (((Below.refl _ _).alloc (Nat.le_refl _) _).mono hBb2.size)) oc hq8w
               have HBC : Hid (Below w2.heap.size w2 wc ∧ K.Holds wc q8 40 tw) := ⟨hBc, hc⟩
               clear hc oc zc hBc hBb2 hq8w hq8)
            | fail)
          have HSM : Hid (∀ W, Below wc.heap.size wc W → K.Holds W q8 40 tw) := fun W hW => K.Below.holds hW HBC.out.2
          refine wp_region_all (fun w5 => Below wc.heap.size wc w5) mixedP (by kernel_rfl) ((Below.refl _ _).drew) ?_
          go_big_quiet_step (fail)
          go_big_quiet_step (fail)
          go_big_quiet_step (fail)
          refine cq_val rfl (.bool true) (fun w5 h5 => by go_simp) ?_
          go_frame
          go_big_quiet_step (exact fun _ => rfl)
          go_big_quiet_step (fail)
          refine cq_load 40 _ rfl q8 rfl rfl 40 tw _ (fun w5 h5 => HSM.out w5 h5) Tryd.underlying40 rfl hin2 ?_
          go_frame
          go_big_quiet_step (fail)
          refine cq_call rfl 25 #[.string nd] (fun _ => by go_simp) (.agg tw) (fun w5 h5 => (HL.out.sum2 w5).mono fun e w6 ⟨he, h6⟩ => ⟨he, h5.trans (h6.mono h5.size)⟩) ?_
          go_frame
          refine cq_eqlS 40 _ _ _ rfl tw tw rfl rfl rfl true K.guardSum (fun w5 _ => HL.out.eq2 w5) ?_
          go_frame
          go_big_quiet_step (exact fun _ => rfl)
          go_big_quiet_step (fail)
          refine wpQuiet_nil ?_
          intro w9 hB9
          simp only [Exit.then]
          go_at_K
          go_wp2_with fail
          go_ret
          exact ⟨rfl, HB2.out.trans ((HBC.out.1.trans (hB9.mono HBC.out.1.size)).mono HB2.out.size)⟩
  · have hni : ¬ (L.length : Int) = 2 := by omega
    obtain ⟨ln, hln⟩ : ∃ ln, L.length = ln := ⟨_, rfl⟩
    rw [hln] at hni
    rw [hln]
    clear hln hL2 hP hM
    go_wp2_with fail
    go_ret
    exact ⟨rfl, HB2.out⟩
end Go.Proofs.YtjdhdeffiigpbaaDoor
