/-
  The document's Read of bytes.
-/
import Derived.Test.YtadpopjhhanapaaKE
import Derived.Test.YtadpopjhhanapaaKF
namespace Go.Proofs.Ytadpopjhhanapaa
open Go Go.RowKit

theorem KeepS.below {g : Nat} {sv : Value} {X W W' : World} (h : KeepS g sv X W) (k : Below W.heap.size W W') : KeepS g sv X W' :=
  ⟨k.os.trans h.os, k.tape.trans h.tape, k.output.trans h.output, Nat.le_trans h.size k.size, fun b hb h1 h2 => (k.block b (Nat.lt_of_lt_of_le hb h.size)).trans (h.block b hb h1 h2)⟩
theorem run_stWs {w : World} {g i : Nat} {t : TypeId} {cs : Array Value} (h : Holds w g t cs) (hi : i < cs.size) (p : Option Addr) (n c : Nat) : (storeVar 22 ⟨g, i, none⟩ (.slice p n c)).run Try.prog w = .ok () (w.setCell ⟨g, i, none⟩ (.slice p n c)) := by
  have h1 := h.cell i
  rw [Array.getElem?_eq_getElem hi] at h1
  have h2 : w.frozen? ⟨g, i, none⟩ = false := by
    have h' : w.heap[g]? = some (.cells cs t (0, 0)) := h
    simp [World.frozen?, h']
  simp [go_sem, h1, h2]
section
variable {ops : Array Oper} {rest : List Oper} {op : Oper} {a : Act} {w : World} {Q : Exit → Act → World → Prop}
theorem wpList_stJ (hw : Region.wanted op (yielded ops a.tmps) = true) (ty : TypeId) (x y : Operand) (ho : op.op = .store ty x y)
    {ad : Addr} {v : Value} (hx : a.eval x = .pointer (some ad)) (hy : a.eval y = v) {w' : World} (hst : (storeVar ty ad v).run Try.prog w = .ok () w') (h : wpList Try.prog ops Q rest (a.put op.dst undef) w') : wpList Try.prog ops Q (op :: rest) a w :=
  wpList_step fun _ hK => by
    rw [if_pos hw]
    unfold Oper.wp execOp
    simp only [ho, hx, hy, Instr.storeAt, Instr.sureAddr, Sem.run_bind, Sem.run_pure, Result.andThen_ok, hst]
    exact hK _ _ h
end
theorem OwnWr.shape' {w : World} {base : Nat} {v : Value} {L : List Wr} (h : OwnWr w base v L) : ∃ p c, v = .slice p L.length c := h.at.shape
theorem news7h {w : World} {g : Nat} {ty : TypeId} {a b c d e f s : Value} (h : Holds w g ty #[a, b, c, d, e, f, s]) (j : Nat) (u : Value) (hu : [a, b, c, d, e, f, s][j]? = some u) : w.cell? ((⟨g, 0, none⟩ : Addr).add j) = some u := by
  rw [add_plain, Nat.zero_add, h.cell]
  simpa using hu
theorem RPost.none_any (w' : World) : RPost w' none (.returned (.tuple #[.agg #[.int .i64 0, .slice none 0 0], .int .i64 10])) := rfl
set_option maxRecDepth 8000 in
set_option maxHeartbeats 16000000 in
theorem qread_any (x : ByteArray) (w : World) (hx : x.size ≤ 60000) : Calls Try.prog 14 #[.string x] w fun e w' => RPost w' (readOf x.data.toList) e ∧ Below w.heap.size w w' := by
  obtain ⟨W0, g2, hW0, hg2, hB0, hz⟩ := box_z w 24 #[.int .i64 0, .slice none 0 0]
  have HB : Hid (Below w.heap.size w W0) := hB0
  have HG : Hid (w.heap.size = g2) := hg2
  have HH : Hid (Holds W0 g2 24 #[.int .i64 0, .slice none 0 0]) := hz
  clear hB0 hz
  have hdec := refDecode_any x W0 (by omega)
  cases hd : decode x.data.toList with
  | none =>
    rw [hd] at hdec
    have hr : readOf x.data.toList = none := by unfold readOf; rw [if_neg (by rw [sizeB]; omega), hd]
    rw [hr]
    unfold RPost blkV
    unfold ItemAns at hdec
    dsimp only at hdec ⊢
    have HDEC : Hid (Calls Try.prog 26 #[.string x] W0 fun e w' => e = .returned (.tuple #[.agg #[.bool false, .string ⟨#[]⟩, .slice none 0 0], .int .i64 10]) ∧ Below W0.heap.size W0 w') := hdec
    clear hdec hr hd hx
    go_enter Try.func14, Try.ntmps14
    go_wp2_with (first
      | (go_at_call 26; refine HDEC.out.mono ?_; rintro e w1 ⟨rfl, hB1⟩)
      | (refine wpList_storeH rfl 24 _ _ rfl g2 #[.int .i64 0, .slice none 0 0] rfl rfl 24 _ (below_holds (below_new hB1 (below_new1 _ _)) HH.out) infoBlk2 rfl (by simp [Value.oneCell']) ?_; intro w3 h3 o3 z3)
      | fail)
    exact bodyPost_ret (results_cellH2 (p := 2) (u := 3) rfl _ w3 g2 24 _ _ rfl h3 Try.underlying24 rfl infoBlk2) rfl ⟨rfl, Only.fresh (below_new HB.out (below_new hB1 (below_new1 _ _))) o3 (by have := HG.out; omega)⟩
  | some r =>
    obtain ⟨b, t, i, rfl, _, _⟩ := decode_one hd
    have hsm := decode_small hd (by rw [sizeB]; omega)
    have hr : readOf x.data.toList = if bytesOf (blkR i).1 (blkR i).2 = some x.data.toList then some (blkR i) else none := by unfold readOf; rw [if_neg (by rw [sizeB]; omega), hd]
    rw [hd] at hdec
    unfold ItemAns at hdec
    dsimp only at hdec
    have HDEC : Hid (Calls Try.prog 26 #[.string x] W0 fun e w' => (∃ a c, e = .returned (.tuple #[.agg #[.bool b, .string ⟨t.toArray⟩, .slice a i.len c], .int .i64 0]) ∧ LiesB w' i a) ∧ Below W0.heap.size W0 w') := hdec.mono fun e w' h => by
      obtain ⟨⟨a, c, h1, _, _, h2⟩, h3⟩ := h
      exact ⟨⟨a, c, h1, Lies.mono (fun k hk => hk.2) h2⟩, h3⟩
    clear hdec
    have HGR : Hid (∀ n L, readOf x.data.toList = some (n, L) → ∀ k, k < (rowAt i 1).len → goodW ((rowAt i 1).nth k).1 (rowAt (rowAt i 1) k)) := fun n L h => good_of_read h hd
    clear hd
    by_cases h2 : i.len = 2
    · have hbk : blkR i = (numR i, writesR (rowAt i 1)) := by unfold blkR; rw [if_pos h2]
      rw [hbk] at hr
      dsimp only at hr
      have h02 := Row.small_nth hsm 0
      have h12 := Row.small_nth hsm 1
      have HUI : Hid (∀ W, Calls Try.prog 27 #[.string (txtAt i 0)] W fun e w' => e = .returned (.tuple #[.int .u64 (uintV (txtAt i 0).data.toList), .bool (uintB (txtAt i 0).data.toList)]) ∧ w' = W) := fun W => refUint_any (txtAt i 0) W (by have := h02.1; omega)
      have HNS : Hid (uintV (txtAt i 0).data.toList ≤ 2147483647 → numR i = (uintV (txtAt i 0).data.toList : Nat)) := numR_small
      have HNB : Hid (¬ uintV (txtAt i 0).data.toList ≤ 2147483647 → readOf x.data.toList = none) := fun h => by rw [hr, numR_big h]; rfl
      rw [h2] at HDEC
      clear h02
      unfold txtAt at HUI HNS HNB
      have HN : Hid (∀ W a, LiesB W i a → ∃ bk o a0 c0 a1 c1, a = some ⟨bk, o, none⟩ ∧ W.cell? ⟨bk, o + 1, none⟩ = some (.string ⟨(i.nth 0).2.1.toArray⟩) ∧ W.cell? ⟨bk, o + 3 + 2, none⟩ = some (.slice a1 (rowAt i 1).len c1) ∧ a0 = a0 ∧ c0 = (c0 : Nat) ∧ LiesB W (rowAt i 1) a1) := fun W a h => by
        obtain ⟨bk, o, a0, c0, rfl, p0, p1, p2, _⟩ := h.nth 0 (by omega)
        obtain ⟨b', o', a1, c1, hbo, q0, q1, q2, _, hl⟩ := h.nth 1 (by omega)
        injection hbo with hbo
        injection hbo with e1 e2
        subst e1 e2
        simp only [Nat.zero_mul, Nat.add_zero, Nat.one_mul] at p1 q2
        exact ⟨bk, o, a0, c0, a1, c1, rfl, p1, q2, rfl, rfl, hl⟩
      have h2s : ∀ k, (rowAt (rowAt i 1) k).small 1000000 := fun k => (Row.small_nth h12.2.2 k).2.2
      have hr1 : (rowAt i 1).len ≤ 1000000 := h12.2.1
      have HWA : Hid (∀ n K, bytesOf n K = bytesOf n (K.map Wr.bare)) := fun n K => (bytesOf_bare n K).symm
      generalize (⟨(i.nth 0).2.1.toArray⟩ : ByteArray) = t0 at *
      obtain ⟨u, hu⟩ : ∃ u, uintV t0.data.toList = u := ⟨_, rfl⟩
      rw [hu] at HUI HNS HNB
      generalize uintB t0.data.toList = ub at *
      generalize numR i = n at *
      generalize rowAt i 1 = r1 at *
      obtain ⟨R, hR⟩ : ∃ R, readOf x.data.toList = R := ⟨_, rfl⟩
      rw [hR] at hr HNB ⊢
      simp only [hR] at HGR
      clear hR hbk h12 hu h2 hsm
      generalize (⟨t.toArray⟩ : ByteArray) = t at *
      go_enter Try.func14, Try.ntmps14
      go_wp2_with fail
      refine HDEC.out.mono ?_
      rintro e w1 ⟨⟨a, c, rfl, hli⟩, hB1⟩
      obtain ⟨bk, o, a0, c0, a1, c1, rfl, p1, q1, -, -, hl1⟩ := HN.out _ _ hli
      obtain ⟨V1, g4, hV1, hg4, hB4, y0, y1, y2⟩ := box_item w1 b t (.slice (some ⟨bk, o, none⟩) 2 c)
      replace p1 := keep_cell hB4 p1
      replace q1 := keep_cell hB4 q1
      have HL1 : Hid (LiesB V1 r1 a1) := hl1.below hB4
      have HB1 : Hid (Below W0.heap.size W0 V1) := below_new hB1 hB4
      have HH1 : Hid (Holds V1 g2 24 #[.int .i64 0, .slice none 0 0]) := below_holds (below_new hB1 hB4) HH.out
      have HG4 : Hid (w1.heap.size = g4) := hg4
      clear hli hl1 HN HDEC hB1 hB4 y0 y1
      obtain ⟨n1, hn1⟩ : ∃ n1, r1.len = n1 := ⟨_, rfl⟩
      have HN1 : Hid (r1.len = n1) := hn1
      rw [hn1] at q1 hr1 HGR
      clear hn1
      by_cases hu : u ≤ 2147483647
      · have hui : ¬ (2147483647 : Int) < u := by omega
        obtain rfl := HNS.out hu
        have hwi : IntKind.i64.wrap (u : Int) = (u : Int) := by rw [IntKind.wrap_i64]; omega
        obtain ⟨V2', g8, hV2, hg8, hB2, hz8⟩ := box_z V1 24 #[.int .i64 0, .slice none 0 0]
        go_wp2_with (first
          | (go_at_call 27; refine (HUI.out _).mono ?_; rintro e w2 ⟨rfl, hw⟩; obtain rfl := hw.symm)
          | (refine wpList_storeH rfl 24 _ _ rfl g8 #[.int .i64 (u : Nat), .slice none 0 0] rfl rfl 24 _ hz8 infoBlk2 rfl (by simp [Value.oneCell']) ?_; intro V2 h3 o3 z3)
          | fail)
        have HZ8 : Hid (Holds V2 g8 24 #[.int .i64 (u : Nat), .slice none 0 0]) := h3
        have HB2 : Hid (Below V1.heap.size V1 V2) := Only.fresh hB2 o3 (by omega)
        have HG8 : Hid (V1.heap.size = g8 ∧ V2.heap.size = g8 + 1) := ⟨hg8, by rw [z3, ← hV2, World.size_alloc]; omega⟩
        clear hz8 hB2 h3 o3 z3
        clear hV2 hg8 HUI HNS HNB hwi hui p1
        go_loopw [9] (fun y wr => ∃ (k : Nat) (K : List Wr) (sv : Value), y = .int .i64 (k : Nat) ∧ k ≤ n1 ∧ Only g8 V2 wr ∧ Hid (Holds wr g8 24 #[.int .i64 (u : Nat), sv]) ∧ OwnWr wr V2.heap.size sv K ∧ K.map Wr.bare = (writesR r1).take k) (fun y _ => n1 - (intOf y).toNat)
        case atStart => exact ⟨0, [], .slice none 0 0, rfl, Nat.zero_le _, Only.refl _ _, HZ8, OwnWr.nil _ _, rfl⟩
        case round =>
          obtain ⟨k, K, sv, rfl, hk, hO, HH8, hown, hK⟩ := hrel
          have hBw : Below V1.heap.size V1 wr := Only.fresh HB2.out hO (by have := HG8.out; omega)
          have z2 := keep_cell hBw y2
          have s1 := keep_cell hBw q1
          by_cases hkn : k < n1
          · have hki : (k : Int) < n1 := by omega
            obtain ⟨b5, o5, aq, cq, rfl, f0, f1, f2, hql, hq⟩ := (HL1.out.below hBw).nth k (by have := HN1.out; omega)
            have hqr : (r1.nth k).2.2 = rowAt r1 k := rfl
            rw [hqr] at f2 hql hq
            clear hqr
            have HTK : Hid ((writesR r1).take (k + 1) = (writesR r1).take k ++ [writeR (rowAt r1 k) (.slice none 0 0)]) := writesR_take r1 k (by have := HN1.out; omega)
            have HGK : Hid (∀ n L, R = some (n, L) → goodW (r1.nth k).1 (rowAt r1 k)) := fun n L h => HGR.out n L h k hkn
            have HWR : Hid (Calls Try.prog 28 #[.agg #[.bool (r1.nth k).1, .string ⟨(r1.nth k).2.1.toArray⟩, .slice aq (rowAt r1 k).len cq]] wr fun e w' => QWPost wr w' (r1.nth k).1 (rowAt r1 k) e ∧ Below wr.heap.size wr w') := qwrite_any _ _ hq (h2s k)
            have HKL : Hid (K.length ≤ 1000000) := by
              show _ ≤ _
              have := congrArg List.length hK
              rw [List.length_map, List.length_take] at this
              omega
            have HKE : Hid (K.map Wr.bare = (writesR r1).take k) := hK
            generalize rowAt r1 k = q at *
            generalize (⟨(r1.nth k).2.1.toArray⟩ : ByteArray) = tx at *
            generalize (r1.nth k).1 = bx at *
            generalize q.len = m at *
            clear hq hql hK
            go_wp2_with fail
            refine HWR.out.mono ?_
            rintro e w5 ⟨⟨y, ok, rfl, hyo, hyb, hyr, hyg⟩, hB5⟩
            obtain ⟨py, ny, cy, hys⟩ := hyo.1.shape3
            have HYB : Hid (y.bare = y.bare) := rfl
            have HYR : Hid (ok = true → y.bare = writeR q (.slice none 0 0)) := hyr
            obtain ⟨xa, xg, xr, xn, xb, xc, xs, xL⟩ := y
            dsimp only at hys hyb
            subst hys
            unfold wra wrC
            dsimp only
            obtain ⟨V6, g10, hV6, hg10, hB6, hz10⟩ := box_z w5 38 #[.string xa, .bool xg, .bool xr, .int .u64 (xn : Nat), .string xb, .string xc, .slice py ny cy]
            have h56 := below_new hB5 hB6
            cases ok with
            | false =>
              have hRn : R = none := by
                cases hR : R with
                | none => rfl
                | some p => exact absurd (hyg (HGK.out p.1 p.2 hR)) (by decide)
              subst hRn
              clear hyo hyb hyr hyg f0 f1 f2 hown hO hr
              go_wp2_with (first
                | (refine wpList_storeH rfl 24 _ _ rfl g2 #[.int .i64 0, .slice none 0 0] rfl rfl 24 _ (below_holds (below_new hBw h56) HH1.out) infoBlk2 rfl (by simp [Value.oneCell']) ?_; intro w9 h9 o9 z9)
                | fail)
              have HF := Only.fresh (below_new HB.out (below_new HB1.out (below_new hBw h56))) o9 (by have := HG.out; omega)
              exact bodyPost_ret (results_cellH2 (p := 2) (u := 3) rfl _ w9 g2 24 _ _ rfl h9 Try.underlying24 rfl infoBlk2) rfl ⟨RPost.none_any _, by first | exact HF | (rw [← HG.out]; exact HF)⟩
            | true =>
              have hyr' := hyr rfl
              have HZ10 : Hid (Holds V6 g10 38 #[.string xa, .bool xg, .bool xr, .int .u64 (xn : Nat), .string xb, .string xc, .slice py ny cy]) := hz10
              obtain ⟨V7, g11, hV7, hg11, hB7, hz11⟩ := box_z V6 38 #[.string xa, .bool xg, .bool xr, .int .u64 (xn : Nat), .string xb, .string xc, .slice py ny cy]
              have h57 := below_new h56 hB7
              have hown7 := hown.below0 h57
              have hH7 := below_holds h57 HH8.out
              have hH6 := below_holds h56 HH8.out
              have hlt := hown.lt
              have hsz7 : V2.heap.size ≤ V7.heap.size := Nat.le_trans hO.size h57.size
              have hyo7 : WrOk V7 ⟨xa, xg, xr, xn, xb, xc, .slice py ny cy, xL⟩ := ⟨hyo.1.below (below_new hB6 hB7), hyo.2⟩
              have hyb7 : ∀ j, (Value.slice py ny cy).ownBlock = some j → V2.heap.size ≤ j ∧ j < V7.heap.size ∧ some j ≠ sv.ownBlock := fun j hj => by
                have h1 := hyb j hj
                have h2 := (below_new hB6 hB7).size
                have h3 := hO.size
                refine ⟨by omega, by omega, fun e => ?_⟩
                have := (hlt j e.symm).2
                omega
              have K7 : KeepS g8 sv wr V7 := KeepS.refl.below h57
              obtain ⟨sp, sn, sc, rfl⟩ := hown.shape3
              have c6 := hH6.cell 1
              simp at c6
              clear hyo hyb hyr hyg f0 f1 f2 hz10
              obtain ⟨i0, hi0, hz0, hz1, hz2⟩ := infoWriteJ
              go_wp2_with (first
                | (refine wpList_loadH rfl 38 _ rfl _ rfl _ _ _ HZ10.out Try.underlying38 rfl infoWrite2 ?_)
                | (refine wpList_stJ rfl 22 _ _ rfl rfl rfl (run_stWs hH9 (by show 1 < 2; decide) _ _ _) ?_)
                | (refine wpList_append_own2 _ rfl _ _ 22 rfl V2.heap.size 38 i0 (.agg #[.string ⟨#[]⟩, .bool false, .bool false, .int .u64 0, .string ⟨#[]⟩, .string ⟨#[]⟩, .slice none 0 0]) 7 88 underWrites hi0 hz0 hz1 hz2 rfl (by omega) _ K.length (wcells K) rfl hown7.1 ⟨g11, 0, none⟩ 1 1 [.string xa, .bool xg, .bool xr, .int .u64 (xn : Nat), .string xb, .string xc, .slice py ny cy] rfl rfl (news7h hz11) (by intro u hu; simp at hu; rcases hu with rfl | rfl | rfl | rfl | rfl | rfl | rfl <;> rfl) (by omega) (by have := HKL.out; unfold maxLen; omega) (by have := HKL.out; omega) hsz7 ?_
                   intro v' w9 hv9 hg9 hw9
                   have hsn := hown7.snoc ⟨hyo7, hyb7⟩ hv9 hg9 hw9
                   obtain ⟨sp', sn', sc', rfl⟩ := hsn.shape3
                   have hng : (Value.slice sp sn sc).ownBlock ≠ some g8 := fun e => by have h1 := hlt g8 e; have h2 := HG8.out; omega
                   have hH9 := holds_grown1 hH7 hg9 (fun e => hng e.symm)
                   have K9 := K7.grown hg9)
                | fail)
              go_roundw
              case measure => simp [intOf]; omega
              have oL : Only g8 w9 (w9.setCell ⟨g8, 1, none⟩ (.slice sp' sn' sc')) := (Only.refl g8 w9).set 1 _
              refine ⟨k + 1, K ++ [⟨xa, xg, xr, xn, xb, xc, .slice py ny cy, xL⟩], .slice sp' sn' sc', by go_num, by omega, (K9.only oL).from hO (fun j hj => (hlt j hj).1), ?_, ?_, ?_⟩
              · show Holds _ _ _ _
                have := hH9.set 1 (.slice sp' sn' sc')
                simpa using this
              · exact hsn.kept0 (fun j h1 h2 => oL.block j h2 (by have := HG8.out; omega)) oL.size
              · rw [List.map_append, HKE.out, HTK.out, ← hyr']; rfl
          · have hki : ¬ (k : Int) < n1 := by omega
            obtain rfl : k = n1 := by omega
            have hKE : K.map Wr.bare = writesR r1 := by rw [hK]; exact List.take_of_length_le (by rw [writesR_len]; have := HN1.out; omega)
            have hKL : K.length ≤ 1000000 := by
              have := congrArg List.length hKE
              rw [List.length_map, writesR_len, HN1.out] at this
              omega
            have hby := qbytes_any (n := (u : Int)) hown.at (by omega)
            rw [HWA.out, hKE] at hby
            have h8 := HH8.out
            have HLT : Hid (∀ j, sv.ownBlock = some j → V2.heap.size ≤ j ∧ j < wr.heap.size) := hown.lt
            have HOW : Hid (OwnWr wr V2.heap.size sv K) := hown
            obtain ⟨sp, sn, sc, rfl⟩ := hown.shape3
            have HSZ : Hid (∀ y : List UInt8, (⟨y.toArray⟩ : ByteArray) = x ↔ y = x.data.toList) := by
              intro y
              constructor
              · intro e; rw [← e]
              · intro e; rw [e]
            cases ho : bytesOf (u : Int) (writesR r1) with
            | none =>
              rw [ho] at hby hr
              rw [if_neg (by simp)] at hr
              subst hr
              unfold bytV blkV at hby
              dsimp only at hby
              have HBY : Hid (Calls Try.prog 12 #[.agg #[.int .i64 (u : Nat), .slice sp sn sc]] wr fun e w' => e = .returned (.tuple #[.string ⟨#[]⟩, .int .i64 19]) ∧ Below wr.heap.size wr w') := hby
              clear hby hown
              go_wp2_with (first
                | (go_at_call 12; refine HBY.out.mono ?_; rintro e w8 ⟨rfl, hB8⟩)
                | (refine wpList_loadH rfl 24 _ rfl _ rfl _ _ _ h8 Try.underlying24 rfl infoBlk2 ?_)
                | (refine wpList_storeH rfl 24 _ _ rfl g2 #[.int .i64 0, .slice none 0 0] rfl rfl 24 _ (below_holds (below_new hBw hB8) HH1.out) infoBlk2 rfl (by simp [Value.oneCell']) ?_; intro w9 h9 o9 z9)
                | fail)
              have HF := Only.fresh (below_new HB.out (below_new HB1.out (below_new hBw hB8))) o9 (by have := HG.out; omega)
              exact bodyPost_ret (results_cellH2 (p := 2) (u := 3) rfl _ w9 g2 24 _ _ rfl h9 Try.underlying24 rfl infoBlk2) rfl ⟨RPost.none_any _, by first | exact HF | (rw [← HG.out]; exact HF)⟩
            | some y =>
              rw [ho] at hby hr
              unfold bytV blkV at hby
              dsimp only at hby
              have HBY : Hid (Calls Try.prog 12 #[.agg #[.int .i64 (u : Nat), .slice sp sn sc]] wr fun e w' => e = .returned (.tuple #[.string ⟨y.toArray⟩, .int .i64 0]) ∧ Below wr.heap.size wr w') := hby
              clear hby hown
              by_cases hy : y = x.data.toList
              · have HNE : Hid ((!decide ((⟨y.toArray⟩ : ByteArray) = x)) = false) := by show _ = _; rw [decide_eq_true ((HSZ.out y).2 hy)]; rfl
                rw [if_pos (by rw [hy])] at hr
                subst hr
                clear hy
                generalize (⟨y.toArray⟩ : ByteArray) = S at *
                go_wp2_with (first
                  | (go_at_call 12; refine HBY.out.mono ?_; rintro e w8 ⟨rfl, hB8⟩; have h8' := below_holds hB8 h8; have hz8 := below_holds (below_new hBw hB8) HH1.out)
                  | (refine wpList_storeH rfl 24 _ _ rfl g2 #[.int .i64 (u : Nat), .slice sp sn sc] rfl rfl 24 _ hz8 infoBlk2 rfl (by simp [Value.oneCell']) ?_; intro w9 h9 o9 z9)
                  | (refine wpList_loadH rfl 24 _ rfl _ rfl _ _ _ h8' Try.underlying24 rfl infoBlk2 ?_)
                  | (refine wpList_loadH rfl 24 _ rfl _ rfl _ _ _ h8 Try.underlying24 rfl infoBlk2 ?_)
                  | (refine wpList_neqJ rfl _ _ _ rfl rfl rfl HNE.out ?_)
                  | fail)
                have HF := Only.fresh (below_new HB.out (below_new HB1.out (below_new hBw hB8))) o9 (by have := HG.out; omega)
                refine bodyPost_ret (results_cellH2 (p := 2) (u := 3) rfl _ w9 g2 24 _ _ rfl h9 Try.underlying24 rfl infoBlk2) rfl ⟨⟨.slice sp sn sc, K, rfl, ?_, hKE⟩, by first | exact HF | (rw [← HG.out]; exact HF)⟩
                exact ((HOW.out.below0 hB8).kept0 (fun j h1 h2 => o9.block j h2 (by have h3 := HH1.out.lt; have h4 := HB2.out.size; omega)) o9.size).at
              · have HNE : Hid ((!decide ((⟨y.toArray⟩ : ByteArray) = x)) = true) := by show _ = _; rw [decide_eq_false (fun e => hy ((HSZ.out y).1 e))]; rfl
                rw [if_neg (by intro e; injection e with e; exact hy e)] at hr
                subst hr
                clear hy
                generalize (⟨y.toArray⟩ : ByteArray) = S at *
                go_wp2_with (first
                  | (go_at_call 12; refine HBY.out.mono ?_; rintro e w8 ⟨rfl, hB8⟩)
                  | (refine wpList_loadH rfl 24 _ rfl _ rfl _ _ _ h8 Try.underlying24 rfl infoBlk2 ?_)
                  | (refine wpList_neqJ rfl _ _ _ rfl rfl rfl HNE.out ?_)
                  | (refine wpList_storeH rfl 24 _ _ rfl g2 #[.int .i64 0, .slice none 0 0] rfl rfl 24 _ (below_holds (below_new hBw hB8) HH1.out) infoBlk2 rfl (by simp [Value.oneCell']) ?_; intro w9 h9 o9 z9)
                  | fail)
                have HF := Only.fresh (below_new HB.out (below_new HB1.out (below_new hBw hB8))) o9 (by have := HG.out; omega)
                exact bodyPost_ret (results_cellH2 (p := 2) (u := 3) rfl _ w9 g2 24 _ _ rfl h9 Try.underlying24 rfl infoBlk2) rfl ⟨RPost.none_any _, by first | exact HF | (rw [← HG.out]; exact HF)⟩
      · have hui : (2147483647 : Int) < u := by omega
        obtain rfl := HNB.out hu
        clear hr HL1 HGR HWA h2s
        go_wp2_with (first
          | (go_at_call 27; refine (HUI.out _).mono ?_; rintro e w2 ⟨rfl, hw⟩; obtain rfl := hw.symm)
          | (refine wpList_storeH rfl 24 _ _ rfl g2 #[.int .i64 0, .slice none 0 0] rfl rfl 24 _ (HH1.out) infoBlk2 rfl (by simp [Value.oneCell']) ?_; intro w9 h9 o9 z9)
          | fail)
        have HF := Only.fresh (below_new HB.out (HB1.out)) o9 (by have := HG.out; omega)
        exact bodyPost_ret (results_cellH2 (p := 2) (u := 3) rfl _ w9 g2 24 _ _ rfl h9 Try.underlying24 rfl infoBlk2) rfl ⟨RPost.none_any _, by first | exact HF | (rw [← HG.out]; exact HF)⟩
    · have hbk : blkR i = (0, []) := by unfold blkR; rw [if_neg h2]
      have hRn : readOf x.data.toList = none := by rw [hr, hbk]; rfl
      rw [hRn]
      have h2i : ¬ (i.len : Int) = 2 := by omega
      clear hr hbk hRn HGR hsm h2
      generalize i.len = m at *
      generalize (⟨t.toArray⟩ : ByteArray) = t at *
      go_enter Try.func14, Try.ntmps14
      go_wp2_with fail
      refine HDEC.out.mono ?_
      rintro e w1 ⟨⟨a, c, rfl, -⟩, hB1⟩
      obtain ⟨V1, g4, hV1, hg4, hB4, y0, y1, y2⟩ := box_item w1 b t (.slice a m c)
      have hz1 := below_holds (below_new hB1 hB4) HH.out
      go_wp2_with (first
        | (refine wpList_storeH rfl 24 _ _ rfl g2 #[.int .i64 0, .slice none 0 0] rfl rfl 24 _ (hz1) infoBlk2 rfl (by simp [Value.oneCell']) ?_; intro w9 h9 o9 z9)
        | fail)
      have HF := Only.fresh (below_new HB.out (below_new hB1 hB4)) o9 (by have := HG.out; omega)
      exact bodyPost_ret (results_cellH2 (p := 2) (u := 3) rfl _ w9 g2 24 _ _ rfl h9 Try.underlying24 rfl infoBlk2) rfl ⟨RPost.none_any _, by first | exact HF | (rw [← HG.out]; exact HF)⟩
end Go.Proofs.Ytadpopjhhanapaa
