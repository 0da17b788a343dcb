/-
  What the document's call of Crash does.
-/
import Derived.Test.YtonmjkalkkfhhaaDRCrashP
namespace Go.Proofs.Ytonmjkalkkfhhaa
open Go Go.RowKit Go.Maps

theorem slice_to (x : ByteArray) (p : Nat) (hp : p ≤ x.size) (w : World) : (Instr.sliceAt 9 (.string x) none (some (.int .i64 (p : Int))) none).run Try.prog w = .ok (.string (x.extract 0 p)) w := by
  have h1 : (p : Int) ≤ x.size := by omega
  go_simp
theorem slice_mid (x : ByteArray) (p q : Nat) (hq : p ≤ q) (hp : q ≤ x.size) (w : World) : (Instr.sliceAt 9 (.string x) (some (.int .i64 (p : Int))) (some (.int .i64 (q : Int))) none).run Try.prog w = .ok (.string (x.extract p q)) w := by
  have h1 : (q : Int) ≤ x.size := by omega
  have h2 : (p : Int) ≤ q := by omega
  go_simp
theorem crashL_full : ∀ (L : List (Int × ByteArray)) (picks : List Int) (l : List ByteArray), (∀ u, 0 ≤ u → (lst l u).size = 0 ∨ (lst l u).size = 1024) → (∀ p ∈ L, 0 ≤ p.1) → ∀ u, 0 ≤ u → (lst (crashL L picks l) u).size = 0 ∨ (lst (crashL L picks l) u).size = 1024
  | [], _, _, h, _ => h
  | p :: L, picks, l, h, hp => by
    rw [crashL]
    refine crashL_full L _ _ ?_ fun q hq => hp q (List.mem_cons_of_mem _ hq)
    intro u hu
    split
    · rename_i ha
      rw [lst_set _ _ _ _ hu]
      split
      · exact .inr (tornT_full _ _ _ ha)
      · exact h u hu
    · exact h u hu
section
variable {w : World} {base rb : Nat} {vl vp vf : Value} {R : RDev}
theorem RAt.onOff (h : RAt w base rb vl vp vf R) (b : Bool) : RAt (w.setCell ⟨rb, 3, none⟩ (.bool b)) base rb vl vp vf { R with off := b } := h.turn ((Only.refl _ _).set 3 _) ((h.cells.set 3 _).congr rfl) rfl rfl rfl
set_option maxRecDepth 8000 in
set_option maxHeartbeats 8000000 in
theorem rcrash_any (h : RAt w base rb vl vp vf R) {N : Nat} (ok : R.ok N) (hN : N < 1000000000) {v : Value} {l : List Int} (hl : ∀ W, RKeep base w W → IntsAt W v l) (hlm : l.length ≤ 17592186044416) (hfu : ∀ u, 0 ≤ u → (lst R.lasts u).size = 0 ∨ (lst R.lasts u).size = 1024) :
    Calls Try.prog 17 #[.pointer (some ⟨rb, 0, none⟩), v] w fun e w' => e = .returned (.tuple #[]) ∧ RKeep base w w' ∧ ∃ vl' vp' vf', RAt w' base rb vl' vp' vf' (R.crash l) := by
  obtain ⟨pk, ck, rfl⟩ := (hl w (RKeep.refl _ _)).len
  obtain ⟨n, hn⟩ : ∃ n, n = l.length := ⟨_, rfl⟩
  rw [← hn] at hlm hl ⊢
  have HL : Hid (n = l.length ∧ ∀ W, RKeep base w W → IntsAt W (.slice pk n ck) l) := ⟨hn, hl⟩
  have hni : (n : Int) ≤ 17592186044416 := by omega
  have HO : Hid (R.ok N) := ok
  have H0 : Hid (RAt w base rb vl vp vf R) := h
  obtain ⟨M, hM⟩ : ∃ M, M = R.puts.length := ⟨_, rfl⟩
  have hMb : M ≤ 1000000000 := by rw [hM]; have := ok.puts; omega
  have hMi : (M : Int) ≤ 1000000000 := by omega
  have HM : Hid (M = R.puts.length) := hM
  clear h ok hn hl hM
  go_enter Try.func17, Try.ntmps17
  go_wp2_with fail
  go_loopw [4, 5] (fun x y wr => ∃ (i : Nat) (v : Value), x = .int .i64 ((4 * i : Nat) : Int) ∧ y = .int .i64 (i : Nat) ∧ i ≤ M ∧ RAt wr base rb v vp vf { R with lasts := crashL (R.puts.take i) l R.lasts } ∧ RKeep base w wr) (fun _ y _ => M - (intOf y).toNat)
  case atStart => exact ⟨0, vl, rfl, rfl, Nat.zero_le _, H0.out, RKeep.refl _ _⟩
  case round =>
    obtain ⟨i, v, rfl, rfl, hi, hR, hK⟩ := hrel
    have c2 : wr.cell? ⟨rb, 2, none⟩ = some vp := hR.cells.cell 2
    have HF : Hid (RAt wr base rb v vp vf { R with lasts := crashL (R.puts.take i) l R.lasts } ∧ RKeep base w wr) := ⟨hR, hK⟩
    have hrow : wr.ownsRow base 71 2 vp R.puts.length (wcells R.puts) := hR.puts
    by_cases hil : i < M
    · have hii : (i : Int) < M := by omega
      obtain ⟨p, hx⟩ : ∃ p, R.puts[i]? = some p := ⟨_, List.getElem?_eq_getElem (by have := HM.out; omega)⟩
      obtain ⟨gp, cap, hvp, hcx, hcy⟩ := put_at hrow hx
      rw [← HM.out] at hvp
      obtain ⟨pg, T⟩ := p
      have hpp := HO.out.pages _ (List.mem_of_getElem? hx)
      have hti : R.puts.take (i + 1) = R.puts.take i ++ [(pg, T)] := by rw [List.take_add_one, hx]; rfl
      have hcr := crashL_app (R.puts.take i) (pg, T) l R.lasts
      rw [← hti, List.length_take, Nat.min_eq_left (by have := HM.out; omega)] at hcr
      have hlen := crashL_len (R.puts.take i) l R.lasts HO.out.lasts fun q hq => HO.out.pages q (List.mem_of_mem_take hq)
      have hfl := crashL_full (R.puts.take i) l R.lasts hfu (fun q hq => (HO.out.pages q (List.mem_of_mem_take hq)).1.1) pg (by have := hpp.1; dsimp only at this; omega)
      obtain ⟨ls, hls⟩ : ∃ ls, ls = crashL (R.puts.take i) l R.lasts := ⟨_, rfl⟩
      rw [← hls] at hcr hlen HF hR hfl
      have HFU : Hid ((lst ls pg).size = 0 ∨ (lst ls pg).size = 1024) := hfl
      have HC : Hid _ := hcr
      dsimp only at hcx hcy hpp
      obtain ⟨⟨hp0, hp1⟩, hTs⟩ := hpp
      subst hvp
      obtain ⟨q, hq⟩ : ∃ q, q = l.drop (4 * i) := ⟨_, rfl⟩
      have hqi : ∀ k, q.getD k 0 = l.getD (4 * i + k) 0 := fun k => by rw [hq, List.getD_eq_getElem?_getD, List.getElem?_drop, List.getD_eq_getElem?_getD]
      have HQ : Hid (q = l.drop (4 * i) ∧ ∀ k, q.getD k 0 = l.getD (4 * i + k) 0) := ⟨hq, hqi⟩
      have hlast : ∀ W, Below wr.heap.size wr W → Calls Try.prog 41 #[.pointer (some ⟨rb, 0, none⟩), .int .i64 pg] W fun e w' => e = .returned (.string (({ R with lasts := ls } : RDev).last pg)) ∧ Below W.heap.size W w' := fun W hW => rlast_any (hR.below hW) pg (by omega) (by show ls.length ≤ _; omega)
      have hls2 : (({ R with lasts := ls } : RDev).last pg) = if (lst ls pg).size ≠ 0 then lst ls pg else zeros := rfl
      obtain ⟨O, hO⟩ : ∃ O, O = ({ R with lasts := ls } : RDev).last pg := ⟨_, rfl⟩
      rw [← hO] at hlast hls2
      have HOO : Hid (O = if (lst ls pg).size ≠ 0 then lst ls pg else zeros) := hls2
      clear hfl hq hqi hls hti hcr hrow hx hK hls2 hO
      go_wp2_with fail
      refine (hlast _ (below_new1 _ _)).mono ?_
      rintro e w2 ⟨rfl, hB2⟩
      clear hlast
      have hBw : Below wr.heap.size wr w2 := (below_new1 wr (.cells #[.int .i64 pg, .string T] 71)).trans (hB2.mono (by simp))
      have hP2 : Holds w2 wr.heap.size 71 #[.int .i64 pg, .string T] := below_holds hB2 (Holds.new _ _ _)
      have hR2 := HF.out.1.below hBw
      have hK2 : RKeep base w w2 := HF.out.2.trans (RKeep.below hBw)
      obtain ⟨pb, hpb⟩ : ∃ pb, pb = wr.heap.size := ⟨_, rfl⟩
      rw [← hpb] at hP2 ⊢
      have F2 : Hid (RAt w2 base rb v (.slice (some ⟨gp, 0, none⟩) M cap) vf { R with lasts := ls } ∧ RKeep base w w2 ∧ Holds w2 pb 71 #[.int .i64 pg, .string T]) := ⟨hR2, hK2, hP2⟩
      have hOs : O.size = 1024 := by
        rw [HOO.out]
        split
        · rename_i hz
          rcases HFU.out with e | e
          · exact absurd e hz
          · exact e
        · exact zeros_size
      have HOs : Hid (O.size = 1024) := hOs
      clear hOs hR2 hK2 hP2 hBw hB2 hpb hR c2 hcx hcy HF
      go_wp2_with fail
      go_loopw [4, 7, 8, 9] (fun x y z t wq => ∃ k : Nat, x = .int .i64 ((4 * i + k : Nat) : Int) ∧ y = .string (tornK O T q k) ∧ z = .bool (anyAt q k) ∧ t = .int .i64 (k : Nat) ∧ k ≤ 4 ∧ RAt wq base rb v (.slice (some ⟨gp, 0, none⟩) M cap) vf { R with lasts := ls } ∧ RKeep base w wq ∧ Holds wq pb 71 #[.int .i64 pg, .string T]) (fun _ _ _ t _ => 4 - (intOf t).toNat)
      case atStart => exact ⟨0, by go_num, by rw [tornK_zero _ _ HOs.out], rfl, rfl, by omega, F2.out⟩
      case round =>
        obtain ⟨k, rfl, rfl, rfl, rfl, hk, hRq, hKq, hPq⟩ := hrel
        clear F2
        have d0 : wr.cell? ⟨pb, 0, none⟩ = some (.int .i64 pg) := hPq.cell 0
        have d1 : wr.cell? ⟨pb, 1, none⟩ = some (.string T) := hPq.cell 1
        have HF : Hid (RAt wr base rb v (.slice (some ⟨gp, 0, none⟩) M cap) vf { R with lasts := ls } ∧ RKeep base w wr ∧ Holds wr pb 71 #[.int .i64 pg, .string T]) := ⟨hRq, hKq, hPq⟩
        by_cases hk4 : k < 4
        · have hki : (k : Int) < 4 := by omega
          have hint := HL.out.2 wr hKq
          have hgk := HQ.out.2 k
          obtain ⟨S, hS⟩ : ∃ S, S = tornK O T q k := ⟨_, rfl⟩
          have hSs : S.size = 1024 := by rw [hS]; exact tornK_size _ _ _ _
          rw [← hS]
          have HS : Hid (S = tornK O T q k) := hS
          have hi9 : (i : Int) ≤ 1000000000 := by omega
          clear hS hRq hKq hPq
          obtain ⟨a, ha⟩ : ∃ a, a = 4 * i + k := ⟨_, rfl⟩
          have HA : Hid (a = 4 * i + k) := ha
          rw [← ha]
          rw [← ha] at hgk
          have ha9 : (a : Int) ≤ 5000000000 := by omega
          have has := anyAt_succ q k
          rw [hgk] at has
          clear ha
          by_cases han : a < n
          · have hani : (a : Int) < n := by omega
            obtain ⟨x, hx⟩ : ∃ x, l[a]? = some x := ⟨_, List.getElem?_eq_getElem (by have := HL.out.1; omega)⟩
            obtain ⟨b, o, rfl, hnl, hcx⟩ := hint.at hx
            clear hnl
            have hxo : l.getD a 0 = x := by rw [List.getD_eq_getElem?_getD, hx]; rfl
            rw [hxo] at hgk has
            have hto := tmod_odd x
            cases hod : odd x with
            | true =>
              rw [hod] at hto has
              have hto : (x.tmod 2 == 0) = false := hto
              rw [Bool.or_true] at has
              have HT : Hid (S.extract 0 (256 * k) ++ T.extract (256 * k) (256 * k + 256) ++ S.extract (256 * k + 256) 1024 = tornK O T q (k + 1) ∧ anyAt q (k + 1) = true) := ⟨by rw [HS.out]; exact tornK_yes hTs hk4 (by rw [hgk]; exact hod), has⟩
              have hs1 : ∀ W, (Instr.sliceAt 9 (.string S) none (some (.int .i64 (256 * (k : Int)))) none).run Try.prog W = .ok (.string (S.extract 0 (256 * k))) W := fun W => by
                have := slice_to S (256 * k) (by omega) W
                simpa using this
              have hs2 : ∀ W, (Instr.sliceAt 9 (.string T) (some (.int .i64 (256 * (k : Int)))) (some (.int .i64 (256 * (k : Int) + 256))) none).run Try.prog W = .ok (.string (T.extract (256 * k) (256 * k + 256))) W := fun W => by
                have := slice_mid T (256 * k) (256 * k + 256) (by omega) (by omega) W
                simpa using this
              have hs3 : ∀ W, (Instr.sliceAt 9 (.string S) (some (.int .i64 (256 * (k : Int) + 256))) none none).run Try.prog W = .ok (.string (S.extract (256 * k + 256) 1024)) W := fun W => by
                have := slice_from S (256 * k + 256) (by omega) W
                rw [hSs] at this
                simpa using this
              clear has hod hgk hx hxo hint
              go_wp2_with fail
              refine wp_region_plan (fun W => W.cell? ⟨pb, 1, none⟩ = some (.string T)) [.take 0, .take 1, .take 2, .take 3, .take 4, .take 5, .take 6, .take 7, .take 8, .take 9, .take 10, .take 11, .take 12, .take 13, .take 14, .take 15, .take 16, .take 17, .take 18, .take 19] mixedP (by kernel_rfl) rfl (by kernel_rfl) (fun _ _ _ d _ h => by cases d <;> exact h) d1 ?_
              refine plan_val (some 46) rfl rfl rfl (.string S) (fun _ => by go_simp) ?_
              go_frame
              refine plan_val (some 47) rfl rfl rfl (.int .i64 (k : Nat)) (fun _ => by go_simp) ?_
              go_frame
              refine plan_val (some 48) rfl rfl rfl (.int .i64 (256 * (k : Int))) (fun _ => by go_simp; rw [IntKind.wrap_i64]; omega) ?_
              go_frame
              refine plan_val (some 49) rfl rfl rfl (.string (S.extract 0 (256 * k))) (fun _ => by go_simp) ?_
              go_frame
              refine plan_val (some 50) rfl rfl rfl (.pointer (some ⟨pb, 1, none⟩)) (fun _ => by go_simp) ?_
              go_frame
              refine plan_ldS (some 51) rfl rfl rfl _ rfl rfl (v := .string T) (fun W hW => hW) ?_
              go_frame
              refine plan_val (some 52) rfl rfl rfl (.int .i64 (k : Nat)) (fun _ => by go_simp) ?_
              go_frame
              refine plan_val (some 53) rfl rfl rfl (.int .i64 (256 * (k : Int))) (fun _ => by go_simp; rw [IntKind.wrap_i64]; omega) ?_
              go_frame
              refine plan_val (some 54) rfl rfl rfl (.int .i64 (k : Nat)) (fun _ => by go_simp) ?_
              go_frame
              refine plan_val (some 55) rfl rfl rfl (.int .i64 (256 * (k : Int))) (fun _ => by go_simp; rw [IntKind.wrap_i64]; omega) ?_
              go_frame
              refine plan_val (some 56) rfl rfl rfl (.int .i64 (256 * (k : Int) + 256)) (fun _ => by go_simp; rw [IntKind.wrap_i64]; omega) ?_
              go_frame
              refine plan_val (some 57) rfl rfl rfl (.string (T.extract (256 * k) (256 * k + 256))) (fun _ => by go_simp) ?_
              go_frame
              refine plan_val (some 58) rfl rfl rfl (.string (S.extract 0 (256 * k) ++ T.extract (256 * k) (256 * k + 256))) (fun _ => by go_simp; omega) ?_
              go_frame
              refine plan_val (some 59) rfl rfl rfl (.string S) (fun _ => by go_simp) ?_
              go_frame
              refine plan_val (some 60) rfl rfl rfl (.int .i64 (k : Nat)) (fun _ => by go_simp) ?_
              go_frame
              refine plan_val (some 61) rfl rfl rfl (.int .i64 (256 * (k : Int))) (fun _ => by go_simp; rw [IntKind.wrap_i64]; omega) ?_
              go_frame
              refine plan_val (some 62) rfl rfl rfl (.int .i64 (256 * (k : Int) + 256)) (fun _ => by go_simp; rw [IntKind.wrap_i64]; omega) ?_
              go_frame
              refine plan_val (some 63) rfl rfl rfl (.string (S.extract (256 * k + 256) 1024)) (fun _ => by go_simp) ?_
              go_frame
              refine plan_val (some 64) rfl rfl rfl (.string (S.extract 0 (256 * k) ++ T.extract (256 * k) (256 * k + 256) ++ S.extract (256 * k + 256) 1024)) (fun _ => by go_simp; omega) ?_
              go_frame
              refine plan_val (some 7) rfl rfl rfl (.string (S.extract 0 (256 * k) ++ T.extract (256 * k) (256 * k + 256) ++ S.extract (256 * k + 256) 1024)) (fun _ => by go_simp) ?_
              go_frame
              refine then_normalD ?_
              go_at_K
              go_wp2_with fail
              refine ⟨⟨k + 1, by have := HA.out; go_num, by rw [HT.out.1], by rw [HT.out.2], by go_num, by omega, HF.out.1.same fun _ _ => rfl, HF.out.2.1.trans (RKeep.below (Below.refl _ _).drew), HF.out.2.2.drew⟩, by simp [intOf]; omega⟩
            | false =>
              rw [hod] at hto has
              have hto : (x.tmod 2 == 0) = true := hto
              rw [Bool.or_false] at has
              have HT : Hid (S = tornK O T q (k + 1) ∧ anyAt q (k + 1) = anyAt q k) := ⟨by rw [tornK_no (by rw [hgk]; exact hod)]; exact HS.out, has⟩
              clear has hod hgk hx hxo hint
              go_wp2_with fail
              exact ⟨⟨k + 1, by have := HA.out; go_num, by rw [← HT.out.1], by rw [HT.out.2], by go_num, by omega, HF.out⟩, by simp [intOf]; omega⟩
          · have hani : ¬ (a : Int) < n := by omega
            have hod := odd_none l (i := a) (by have := HL.out.1; omega)
            rw [hod, Bool.or_false] at has
            have HT : Hid (S = tornK O T q (k + 1) ∧ anyAt q (k + 1) = anyAt q k) := ⟨by rw [tornK_no (by rw [hgk]; exact hod)]; exact HS.out, has⟩
            clear has hod hgk hint
            go_wp2_with fail
            exact ⟨⟨k + 1, by have := HA.out; go_num, by rw [← HT.out.1], by rw [HT.out.2], by go_num, by omega, HF.out⟩, by simp [intOf]; omega⟩
        · have hki : ¬ (k : Int) < 4 := by omega
          obtain rfl : k = 4 := by omega
          have HCC := HC.out
          rw [← HQ.out.1] at HCC
          cases hany : anyAt q 4 with
          | true =>
            have hset := rset_any HF.out.1 pg ⟨hp0, hp1⟩ (tornK O T q 4) hlen
            have HT : Hid (crashL (R.puts.take (i + 1)) l R.lasts = setL ls pg.toNat (tornK O T q 4)) := by
              unfold Hid
              rw [HCC, if_pos hany, tornR_eq hany, ← HOO.out]
            clear HCC hany hRq hKq hPq
            go_wp2_with fail
            refine hset.mono ?_
            rintro e w4 ⟨rfl, hK4, v4, hR4⟩
            clear hset
            go_wp2_with fail
            refine ⟨⟨i + 1, v4, by go_num, by go_num, by omega, ?_, HF.out.2.1.trans hK4⟩, by simp [intOf]; omega⟩
            rw [HT.out]
            exact hR4
          | false =>
            have HT : Hid (crashL (R.puts.take (i + 1)) l R.lasts = ls) := by
              unfold Hid
              rw [HCC, if_neg (by rw [hany]; decide)]
            clear HCC hany hRq hKq hPq
            go_wp2_with fail
            refine ⟨⟨i + 1, v, by go_num, by go_num, by omega, ?_, HF.out.2.1⟩, by simp [intOf]; omega⟩
            rw [HT.out]
            exact HF.out.1
    · have hii : ¬ (i : Int) < M := by omega
      obtain ⟨pf, cap, hvp⟩ := slice_of hrow
      rw [← HM.out] at hvp
      have HV : Hid (vp = .slice pf M cap) := hvp
      rw [hvp] at c2
      have f2 := hR.cells.frozen 2
      have c3 : wr.cell? ⟨rb, 3, none⟩ = some (.bool R.off) := hR.cells.cell 3
      have f3 := hR.cells.frozen 3
      have hti : R.puts.take i = R.puts := List.take_of_length_le (by have := HM.out; omega)
      rw [hti] at HF
      have hcl := rclear_any (HF.out.1.noPuts.onOff false)
      clear hvp hR hK hrow hti
      go_wp2_with fail
      refine hcl.mono ?_
      rintro e w6 ⟨rfl, hR6, hO6⟩
      clear hcl
      go_wp2_with fail
      go_end0
      exact ⟨rfl, HF.out.2.trans (((HF.out.1.only ((Only.refl _ _).set 2 _)).trans (HF.out.1.noPuts.only ((Only.refl _ _).set 3 _))).trans ((HF.out.1.noPuts.onOff false).only hO6)), _, _, _, hR6⟩
end
end Go.Proofs.Ytonmjkalkkfhhaa
