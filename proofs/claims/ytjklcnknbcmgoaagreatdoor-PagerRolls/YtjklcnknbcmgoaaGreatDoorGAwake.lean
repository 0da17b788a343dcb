/-
  The chapter's examples.
-/
import Derived.Test.YtjklcnknbcmgoaaGreatDoorGAwP
import Derived.Test.YtjklcnknbcmgoaaGreatDoorPEq
namespace Go.Proofs.YtjklcnknbcmgoaaGreatDoor
open Go Go.RowKit Go.Maps

set_option maxRecDepth 8000 in
theorem pk_open {w0 w : World} {h : Hd} {D : Dev} (a : DiskAt w h D) (hnew : ∀ k, Blk h k → w0.heap.size ≤ k) (hB : Below w0.heap.size w0 w) (cm : Cm D) (hz : 2 ≤ D.size) (hp : ∀ n, D.pages n = none) {N : Nat} (ok : D.ok N) (hN : N + 5 < 1000000000) (hT : K.Tabs w0) :
    Calls Tryz.prog 10 #[.pointer (some ⟨h.b, 0, none⟩)] w fun e w' => ∃ b H D', e = .returned (.tuple #[.pointer (some ⟨b, 0, none⟩), .int .i64 0]) ∧ Pk (fun _ => False) w0 w' b H ⟨⟨0, 0, 0, 2, 2, 0, false, false, 0⟩, [], fun _ => none, fun _ => none, D'⟩ (N + 4) ∧ D'.size = D.size := by
  obtain ⟨f1, f2, f3, f4, f5, f6, f7⟩ := found_new cm hz hp
  obtain ⟨s1, s2, s3, s4, s5⟩ := cm_sync f3
  have hzs : zeros.size ≤ 9223372036854775807 := by rw [zeros_size]; decide
  refine (gopen_any a ok hN (hT.below hB) (fun k hk => Nat.le_trans hT.size (hnew k hk.blk)) (by rw [f5]; exact hzs) (by rw [f6]; exact hzs) hz (f7 N ok)).mono ?_
  rintro e w' (⟨er, ⟨h1, _⟩ | ⟨_, h1, _⟩, h2, _⟩ | ⟨b, rfl, h2, g1, g2, hd, hc, hm1, hm2, hne, n1, n2, l1, l2, l3⟩)
  · exact absurd (h1.trans f2) h2
  · exact absurd (h1.trans s1) h2
  · refine ⟨b, ⟨⟨h.b, none, .slice none 0 0, g1, g2⟩, h2⟩, _, rfl, ⟨⟨?_, hd.newer.1.symm, hd.at_, SpAt.empty w', MapAt.mono hm1 (Nat.zero_le _), MapAt.mono hm2 (Nat.zero_le _), hne, ⟨by simp, by simp⟩, ⟨n1, n2⟩, fun m e => by cases e⟩, ?_, ?_, fun k g => g.elim, sync_ok (f7 N ok), s2, rfl⟩, s3.trans f4⟩
    · rw [f1] at hc
      exact hc
    · rintro k (q | q | q | q | q | q)
      · exact ⟨by have := hB.size; omega, fun g => g⟩
      · cases q
      · cases q
      · exact ⟨by have := hB.size; dsimp only at q; omega, fun g => g⟩
      · exact ⟨by have := hB.size; dsimp only at q; omega, fun g => g⟩
      · rcases hd.newer.2 k q with f | f
        · exact ⟨hnew k f.blk, fun g => g⟩
        · exact ⟨by have := hB.size; omega, fun g => g⟩
    · exact hd.keep.fresh hB (fun k hk => hnew k hk.blk)
theorem runs_nil {L : Runs} (h : ∀ q, q ∉ L) : L = [] := by
  cases L with
  | nil => rfl
  | cons q L => exact absurd List.mem_cons_self (h q)
theorem runs_one {L : Runs} {q : Int × Int} (hs : Srt L) (h : ∀ x, x ∈ L ↔ x = q) : L = [q] := by
  cases L with
  | nil => exact absurd ((h q).2 rfl) (by simp)
  | cons x L =>
    have hx := (h x).1 List.mem_cons_self
    cases L with
    | nil => rw [hx]
    | cons y L =>
      have hy := (h y).1 (List.mem_cons_of_mem _ List.mem_cons_self)
      have := hs.first y List.mem_cons_self
      rw [hx, hy] at this
      omega
set_option maxRecDepth 8000 in
set_option maxHeartbeats 4000000 in
theorem awake_any {w : World} (hT : K.Tabs w) : Calls Tryz.prog 8 #[] w fun e w' => e = .returned (.bool true) ∧ Below w.heap.size w w' := by
  have hq := pg_eql
  have hnot := run_not
  have hnw := new_any 10 w
  go_enter Tryz.func8, Tryz.ntmps8
  go_wp2_with fail
  refine hnw.mono ?_
  rintro e w1 ⟨h, rfl, a1, hn1, hB1⟩
  have hz10 : (Dev.new 10).size = 10 := rfl
  have hop := pk_open a1 hn1 hB1 (cm_new 10) (by rw [hz10]; decide) (fun _ => rfl) (Dev.new_ok 10 0) (by decide) hT
  clear hnw
  go_wp2_with fail
  refine hop.mono ?_
  rintro e w2 ⟨b, H2, D2, rfl, p2, z2⟩
  rw [hz10] at z2
  have hus := pk_use p2 rfl (show (2 : Int) ≤ topPg by decide)
  clear hop
  go_wp2_with fail
  refine hus.mono ?_
  rintro e w3 ⟨rfl, H3, p3, _⟩
  have e3 : St.useS ⟨⟨0, 0, 0, 2, 2, 0, false, false, 0⟩, [], fun _ => none, fun _ => none, D2⟩ = ⟨⟨0, 0, 0, 2, 2, 0, false, true, 0⟩, [], fun _ => none, fun _ => none, D2⟩ := by
    unfold St.useS addI
    rfl
  rw [e3] at p3
  have hw3 := pk_write_no p3 hT (by decide) 2 (by decide) rfl 76 ⟨#[120]⟩
  clear hus e3
  go_wp2_with fail
  refine hw3.mono ?_
  rintro e w4 ⟨rfl, H4, p4, _⟩
  have hal := pk_alloc_end p4 rfl ⟨show (0 : Int) ≤ 2 by decide, by dsimp only; omega⟩ (fun u x h => by cases h)
  clear hw3
  dsimp only at hal
  go_wp2_with fail
  refine hal.mono ?_
  rintro e w5 ⟨rfl, H5, p5, _⟩
  have hwo := pk_write_ok p5 hT (by decide) 2 ⟨by decide, by dsimp only; omega⟩ (show setM (fun _ => none) (2 : Int) (some ()) 2 = some () from setM_same _ _ _) 76 ⟨#[120]⟩ (by decide)
  clear hal
  dsimp only at hwo
  go_wp2_with fail
  refine hwo.mono ?_
  rintro e w6 ⟨rfl, H6, p6, _, z6⟩
  generalize (D2.write 2 (K.sealS 76 ⟨#[120]⟩)).2 = D6 at p6 z6
  have hcm := pk_commit p6 hT (by decide) 2 1 ⟨by decide, by decide⟩ ⟨show (0 : Int) ≤ 0 by decide, show (0 : Int) < 1000000000000 by decide⟩ ⟨show (0 : Int) ≤ 2 + 1 by decide, show (2 + 1 : Int) ≤ topPg by decide⟩ (by dsimp only; omega) (fun u x h => by cases h)
  clear hwo
  dsimp only at hcm
  go_wp2_with fail
  refine hcm.mono ?_
  rintro e w7 ⟨rfl, H7, L7, D7, p7, _, z7, hm7⟩
  have hL7 : L7 = [] := runs_nil (fun q hq' => by
    rcases (hm7 q).1 hq' with h | ⟨n, h, _⟩
    · cases h
    · cases h)
  subst hL7
  have hme := gmeta_any p7.at_.cells
  clear hcm hm7
  dsimp only at hme
  go_wp2_with fail
  refine hme.mono ?_
  rintro e w8 ⟨rfl, hB8⟩
  have p8 := p7.below hB8
  clear hme
  obtain ⟨bm, hbm⟩ : ∃ g, w8.heap.size = g := ⟨_, rfl⟩
  obtain ⟨W9, hW9⟩ : ∃ W, w8.alloc (.cells #[.int .i64 0, .int .i64 0, .int .i64 0, .int .i64 0] 43) = W := ⟨_, rfl⟩
  have hB9 : Below w8.heap.size w8 W9 := by rw [← hW9]; exact below_new1 _ _
  have h9 : Holds W9 bm 43 #[.int .i64 0, .int .i64 0, .int .i64 0, .int .i64 0] := by rw [← hW9, ← hbm]; exact Holds.new _ _ _
  go_wp2_with ((with_reducible show wpList _ _ _ (Oper.mk _ (Op.store 43 _ _) _ _ _ _ :: _) _ _); go_must (refine wpList_storeH rfl 43 _ _ rfl bm _ rfl rfl 43 #[.int .i64 0, .int .i64 0, .int .i64 0, .int .i64 0] h9 infoMetaG rfl (by simp [Value.oneCell']) ?_; intro w10 h10 hO10 hs10))
  have hB10 : Below w8.heap.size w8 w10 := Only.fresh hB9 hO10 (by omega)
  have p10 := p8.more (G' := fun k => k = bm) hB10 (fun k hk => ⟨.inr (by omega), by have := h10.lt; omega⟩)
  have HM : Hid (Holds w10 bm 43 #[.int .i64 1, .int .i64 2, .int .i64 1, .int .i64 3]) := h10
  clear hB9 h9 hO10 hs10 hB10 p8 p7 hB8 h10 hW9 hbm
  clear p2 p3 p4 p5 p6
  have hal := pk_alloc_end p10 rfl ⟨show (0 : Int) ≤ 2 + 1 by decide, by dsimp only; omega⟩ (fun u x h => by cases h)
  dsimp only at hal
  go_wp2_with fail
  refine hal.mono ?_
  rintro e w11 ⟨rfl, H11, p11, s11⟩
  clear hal
  obtain ⟨g, hg⟩ : ∃ g, w11.heap.size = g := ⟨_, rfl⟩
  obtain ⟨W12, hW12⟩ : ∃ W, w11.alloc (.cells #[.int .i64 2] 3) = W := ⟨_, rfl⟩
  have hB12 : Below w11.heap.size w11 W12 := by rw [← hW12]; exact below_new1 _ _
  have h12 : Holds W12 g 3 #[.int .i64 2] := by rw [← hW12, ← hg]; exact Holds.new _ _ _
  have p12 := p11.below hB12
  have ng : ¬ PgFoot b H11 g := fun h => by have := p11.at_.lt _ h.blk; omega
  have s12 : SameG (fun k => k = bm) w10 W12 := fun k hk => (hB12.block k (p11.kept k hk)).trans (s11 k hk)
  have e3 : Hid (∀ u x, setM (fun _ => none) (2 + 1 : Int) (some ()) u = some x → u = 2 + 1) := fun u x hu => by
    unfold setM at hu
    split at hu
    · assumption
    · cases hu
  have hfe := pk_free_state p12 (fun u x hu => ⟨by have := e3.out u x hu; omega, by have := e3.out u x hu; unfold topPg; omega, fun h => h⟩) (fun u x hu => by cases hu) (show (2 + 1 : Int) ≤ topPg by decide) 2 ⟨by decide, show (2 : Int) < 2 + 1 by decide⟩ (show setM (fun _ => none) (2 + 1 : Int) (some ()) 2 = none from setM_other _ _ (by decide)) (fun h => h) rfl h12 ng
  dsimp only at hfe
  clear hB12 h12 p11 s11 ng
  go_wp2_with fail
  refine hfe.mono ?_
  rintro e w13 ⟨rfl, H13, p13, s13⟩
  have hal := pk_alloc_end p13 rfl ⟨show (0 : Int) ≤ 2 + 1 + 1 by decide, by dsimp only; omega⟩ (fun u x hu => by have := e3.out u x hu; unfold topPg; omega)
  clear hfe
  dsimp only at hal
  go_wp2_with fail
  refine hal.mono ?_
  rintro e w14 ⟨rfl, H14, p14, s14⟩
  clear hal
  have hcm := pk_commit p14 hT (by decide) 3 1 ⟨by decide, by decide⟩ ⟨show (0 : Int) ≤ 0 + 1 by decide, show (0 + 1 : Int) < 1000000000000 by decide⟩ ⟨show (0 : Int) ≤ 2 + 1 + 1 + 1 by decide, show (2 + 1 + 1 + 1 : Int) ≤ topPg by decide⟩ (by dsimp only; omega) (fun u x hu => by
    have hu2 : setM (fun _ => none) (2 : Int) (some ()) u = some x := hu
    unfold setM at hu2
    split at hu2
    · unfold topPg
      exact ⟨by omega, by omega, fun h => h⟩
    · cases hu2)
  dsimp only at hcm
  go_wp2_with fail
  refine hcm.mono ?_
  rintro e w15 ⟨rfl, H15, L15, D15, p15, s15, z15, hm15⟩
  have hL15 : L15 = [(2, 3)] := runs_one p15.at_.sp.srt (fun q => by
    rw [hm15 q]
    constructor
    · rintro (h | ⟨n, h, h2⟩)
      · cases h
      · have : n = 2 := by
          apply Classical.byContradiction
          intro hne
          rw [setM_other _ _ hne] at h
          cases h
        subst this
        exact h2
    · rintro rfl
      exact .inr ⟨2, by rw [setM_same]; rfl, rfl⟩)
  subst hL15
  have hal := pk_alloc_one p15 (q := (2, 3)) rfl (by decide) ⟨show (0 : Int) ≤ 2 + 1 + 1 + 1 by decide, show (2 + 1 + 1 + 1 : Int) < topPg by decide⟩ (fun u x hu => by cases hu)
  clear hcm hm15
  dsimp only at hal
  go_wp2_with fail
  refine hal.mono ?_
  rintro e w16 ⟨rfl, H16, p16, s16⟩
  have hbk := gbroken_any p16.at_.cells
  have h16 : Holds w16 bm 43 #[.int .i64 1, .int .i64 2, .int .i64 1, .int .i64 3] := by
    have := HM.out
    unfold Holds at *
    rw [s16 bm rfl, s15 bm rfl, s14 bm rfl, s13 bm rfl, s12 bm rfl]
    exact this
  have HB : Hid (Below w.heap.size w w16) := p16.blw
  have heql := K.eql_meta w16 1 2 1 3 1 2 1 3
  clear hal HM s12 s13 s14 s15 s16 e3
  dsimp only at hbk
  go_wp2_with (first
    | ((with_reducible show wpList _ _ _ (Oper.mk _ (Op.load 43 _) _ _ _ _ :: _) _ _); go_must (refine wpList_loadG rfl 43 _ rfl _ rfl 43 _ _ h16 Tryz.underlying43 rfl infoMetaG ?_)))
  refine hbk.mono ?_
  rintro e w17 ⟨rfl, hw17⟩
  have hw18 := hw17.symm
  clear hbk hw17
  subst hw18
  go_wp2_with fail
  go_ret
  exact ⟨rfl, HB.out⟩
end Go.Proofs.YtjklcnknbcmgoaaGreatDoor
