/-
  The document's Same: of two blocks, apart from where their rows lie.
-/
import Derived.Test.YtadpopjhhanapaaJAcctsW
import Derived.Test.YtadpopjhhanapaaKI
namespace Go.Proofs.Ytadpopjhhanapaa
open Go Go.RowKit

/-- What Same answers. -/
def SPost (n m : Int) (L K : List Wr) (e : Ending) : Prop := ∃ q, e = .returned (.bool q) ∧ (q = true ↔ n = m ∧ L.map Wr.bare = K.map Wr.bare)
theorem guardSlot : Try.prog.eqGuardType Try.prog.depth 50 = false := by kernel_rfl
theorem eql_slot (w : World) (a b c d : ByteArray) : (Op.equalIn 10000 50 (.agg #[.string a, .string b]) (.agg #[.string c, .string d])).run Try.prog w = .ok (decide (a = c) && decide (b = d)) w := by
  rw [run_equalIn_struct w 9999 50 _ _ (by kernel_rfl) (by kernel_rfl)]
  rw [← beqD a c, ← beqD b d]
  go_simp
  by_cases h1 : a.toList = c.toList <;> by_cases h2 : b.toList = d.toList <;> simp [h1, h2]
section
variable {ops : Array Oper} {rest : List Oper} {op : Oper} {a : Act} {C : World → Prop} {Q : Act → Prop}
theorem run_neqSl (x y : Operand) {b c d e : ByteArray} (ρ : Operand → Value) (hx : ρ x = .agg #[.string b, .string c]) (hy : ρ y = .agg #[.string d, .string e]) (ho : op.op = .binOp .neq 50 x y 50) (w : World) : (execOp ρ op).run Try.prog w = .ok (.value (.bool (!(decide (b = d) && decide (c = e))))) w := by
  unfold execOp
  have h1 := run_eqGuard_agg (P := Try.prog) w .neq 50 x y #[.string b, .string c] #[.string d, .string e] guardSlot
  have h2 := run_neq_struct (P := Try.prog) w 50 #[.string b, .string c] #[.string d, .string e]
  rw [eql_slot] at h2
  simp only [ho, hx, hy, Sem.run_bind, Sem.run_pure, h1, h2, Result.andThen_ok]
theorem wpQ_neqSl (hw : Region.wanted op (yielded ops a.tmps) = true) (x y : Operand) (ho : op.op = .binOp .neq 50 x y 50) {b c d e : ByteArray} (hx : a.eval x = .agg #[.string b, .string c]) (hy : a.eval y = .agg #[.string d, .string e]) {r : Bool} (hr : (!(decide (b = d) && decide (c = e))) = r)
    (h : wpQuiet Try.prog ops C Q rest (a.put op.dst (.bool r))) : wpQuiet Try.prog ops C Q (op :: rest) a :=
  wpQ_val hw _ (fun w => by rw [run_neqSl x y a.eval hx hy ho w, hr]) h
end
section
variable {ops : Array Oper} {rest : List Oper} {op : Oper} {a : Act} {Q : Exit → Act → World → Prop} {w : World}
theorem wpList_neqK (x y : Operand) (ho : op.op = .binOp .neq 9 x y 9) {u v : ByteArray} (hx : a.eval x = .string u) (hy : a.eval y = .string v) {r : Bool} (hr : (!decide (u = v)) = r) (hw : Region.wanted op (yielded ops a.tmps) = true)
    (h : wpList Try.prog ops Q rest (a.put op.dst (.bool r)) w) : wpList Try.prog ops Q (op :: rest) a w := wpList_neqJ hw _ x y ho hx hy hr h
end
theorem ldSl {w : World} {ad : Addr} {p : Option Addr} {n c : Nat} (h : w.cell? ad = some (.slice p n c)) : (loadVar 36 ad).run Try.prog w = .ok (.slice p n c) w := by simp [go_sem, h]
theorem bare_at {L K : List Wr} {i : Nat} {x y : Wr} (hx : L[i]? = some x) (hy : K[i]? = some y) (h : x.bare ≠ y.bare) : ¬ L.map Wr.bare = K.map Wr.bare := fun e => by
  have := congrArg (·[i]?) e
  simp only [List.getElem?_map, hx, hy, Option.map_some] at this
  exact h (Option.some.inj this)
theorem bare_step {L K : List Wr} {i : Nat} {x y : Wr} (hx : L[i]? = some x) (hy : K[i]? = some y) (h : x.bare = y.bare) (hi : (L.take i).map Wr.bare = (K.take i).map Wr.bare) : (L.take (i + 1)).map Wr.bare = (K.take (i + 1)).map Wr.bare := by
  rw [List.take_add_one, List.take_add_one, hx, hy, List.map_append, List.map_append, hi]
  simp [h]
theorem take_step' {L K : List Sl} {i : Nat} {x : Sl} (hx : L[i]? = some x) (hy : K[i]? = some x) (hi : L.take i = K.take i) : L.take (i + 1) = K.take (i + 1) := by
  rw [List.take_add_one, List.take_add_one, hx, hy, hi]
set_option maxRecDepth 8000 in
set_option maxHeartbeats 16000000 in
theorem qsame_any {w : World} {n m : Int} {u v : Value} {L K : List Wr} (hu : WritesAt w u L) (hv : WritesAt w v K) (hl : L.length ≤ 4000000000000) (hk : K.length ≤ 4000000000000) (hls : ∀ x ∈ L, x.L.length ≤ 4000000000000) :
    Calls Try.prog 15 #[blkV n u, blkV m v] w fun e w' => SPost n m L K e ∧ Below w.heap.size w w' := by
  obtain ⟨p, c, rfl⟩ := hu.shape
  obtain ⟨p', c', rfl⟩ := hv.shape
  obtain ⟨W0, g, hW0, hg, hB0, hb0, -, -⟩ := box_block w n (.slice p L.length c)
  obtain ⟨W1, g1, hW1, hg1, hB1, hb1, -, -⟩ := box_block W0 m (.slice p' K.length c')
  have HB : Hid (Below w.heap.size w W1) := below_new hB0 hB1
  have HG : Hid (w.heap.size = g) := hg
  have HU : Hid (WritesAt W1 (.slice p L.length c) L) := (hu.below hB0).below hB1
  have HV : Hid (WritesAt W1 (.slice p' K.length c') K) := (hv.below hB0).below hB1
  have hb0 := below_holds hB1 hb0
  have HH : Hid (Holds W1 g 24 #[.int .i64 n, .slice p L.length c] ∧ Holds W1 g1 24 #[.int .i64 m, .slice p' K.length c']) := ⟨hb0, hb1⟩
  have c0 := hb0.cell 0
  have c1 := hb0.cell 1
  have d0 := hb1.cell 0
  have d1 := hb1.cell 1
  simp at c0 c1 d0 d1
  clear hB0 hB1 hb0 hb1 hu hv
  obtain ⟨N, hN⟩ : ∃ N, L.length = N := ⟨_, rfl⟩
  have HN : Hid (L.length = N) := hN
  obtain ⟨M, hM⟩ : ∃ M, K.length = M := ⟨_, rfl⟩
  have HM : Hid (K.length = M) := hM
  rw [hN] at hl c1 HU HH hW0 ⊢
  rw [hM] at hk d1 HV HH hW1 ⊢
  clear hN hM
  unfold blkV
  by_cases hnm : n = m
  · subst hnm
    by_cases hlen : N = M
    · subst hlen
      have hNi : (N : Int) ≤ 4000000000000 := by omega
      go_enter Try.func15, Try.ntmps15
      go_wp2_with fail
      clear c0 c1 d0 d1
      go_loopw [5] (fun y wr => ∃ i : Nat, y = .int .i64 (i : Nat) ∧ i ≤ N ∧ Hid ((L.take i).map Wr.bare = (K.take i).map Wr.bare) ∧ Below W1.heap.size W1 wr) (fun y _ => N - (intOf y).toNat)
      case atStart => exact ⟨0, rfl, Nat.zero_le _, rfl, Below.refl _ _⟩
      case round =>
        obtain ⟨i, rfl, hi, HI, hB⟩ := hrel
        have c1 := (below_holds hB HH.out.1).cell 1
        have d1 := (below_holds hB HH.out.2).cell 1
        simp at c1 d1
        by_cases hiN : i < N
        · have hii : (i : Int) < N := by omega
          obtain ⟨x, hx⟩ : ∃ x, L[i]? = some x := ⟨_, List.getElem?_eq_getElem (by have := HN.out; omega)⟩
          obtain ⟨y, hy⟩ : ∃ y, K[i]? = some y := ⟨_, List.getElem?_eq_getElem (by have := HM.out; omega)⟩
          have hux := HU.out.below hB
          have hvy := HV.out.below hB
          have okx := (hux.1 x (List.mem_of_getElem? hx)).1
          have oky := (hvy.1 y (List.mem_of_getElem? hy)).1
          have hxl := hls x (List.mem_of_getElem? hx)
          obtain ⟨b, o, rfl, -, q0, q1, q2, q3, q4, q5, q6⟩ := hux.at hx
          have HX : Hid (L[i]? = some x ∧ K[i]? = some y) := ⟨hx, hy⟩
          have HNO : Hid (x.bare ≠ y.bare → ¬ L.map Wr.bare = K.map Wr.bare) := fun h => bare_at hx hy h
          obtain ⟨xa, xg, xr, xn, xb, xc, xs, xL⟩ := x
          obtain ⟨ya, yg, yr, yn, yb, yc, ys, yL⟩ := y
          dsimp only at *
          obtain ⟨sp, sc, rfl⟩ := okx.shape
          obtain ⟨tp, tc, rfl⟩ := oky.shape
          obtain ⟨S, hS⟩ : ∃ S, xL.length = S := ⟨_, rfl⟩
          have HS : Hid (xL.length = S) := hS
          obtain ⟨T, hT⟩ : ∃ T, yL.length = T := ⟨_, rfl⟩
          have HT : Hid (yL.length = T) := hT
          obtain ⟨V1, gx, hV1, hgx, hBV1, hxw⟩ := box_write wr ⟨xa, xg, xr, xn, xb, xc, .slice sp xL.length sc, xL⟩
          obtain ⟨V2, gy, hV2, hgy, hBV2, hyw⟩ := box_write V1 ⟨ya, yg, yr, yn, yb, yc, .slice tp yL.length tc, yL⟩
          dsimp only at hV1 hV2
          have hvy2 := hvy.below hBV1
          obtain ⟨b', o', rfl, -, r0, r1, r2, r3, r4, r5, r6⟩ := hvy2.at hy
          have d1 := (below_holds hBV1 (below_holds hB HH.out.2)).cell 1
          simp at d1
          obtain ⟨x0, x1, x2, x3, x4, x5, x6⟩ := hxw.below hBV2
          obtain ⟨y0, y1, y2, y3, y4, y5, y6⟩ := hyw
          dsimp only at x0 x1 x2 x3 x4 x5 x6 y0 y1 y2 y3 y4 y5 y6 r0 r1 r2 r3 r4 r5 r6
          rw [hS] at q6 okx hxl hV1 x6
          rw [hT] at r6 oky hV2 y6
          have HBV : Hid (Below wr.heap.size wr V2) := below_new hBV1 hBV2
          clear hBV1 hBV2 hxw
          clear hvy2 hvy hy hS hT
          clear hux hx
          have HWB : Hid (Below w.heap.size w V2) := below_new (below_new HB.out hB) HBV.out
          go_wp2_with fail
          all_goals try (
            rename_i hlast
            have HNN := HNO.out (fun e => by
              simp only [Wr.bare, Wr.mk.injEq, true_and] at e
              obtain ⟨e1, e2, e3, e4, e5, e6, e7⟩ := e
              have h10 : S = T := by rw [← HS.out, ← HT.out, e7]
              first
                | exact hlast (by rw [e1])
                | exact hlast e2
                | exact hlast e3
                | exact hlast (by rw [e4])
                | exact hlast (by rw [e5])
                | exact hlast (by rw [e6])
                | (rw [h10] at hlast; simp at hlast))
            go_ret
            exact ⟨⟨_, rfl, by simp [HNN]⟩, by first | exact HWB.out | (rw [← HG.out]; exact HWB.out)⟩)
          rename_i hA hG' hR' hNn hBb hCc hSTb
          obtain rfl := ba_ext hA
          subst hG' hR'
          obtain rfl : xn = yn := by omega
          obtain rfl := ba_ext hBb
          obtain rfl := ba_ext hCc
          obtain rfl : S = T := by have := hSTb; simp at this; omega
          rw [show ((S : Int) != (S : Int)) = false from by simp]
          have hSi : (S : Int) ≤ 4000000000000 := by omega
          have HSX : Hid (SlotsAt V2 (.slice sp S sc) xL ∧ SlotsAt V2 (.slice tp S tc) yL) := ⟨okx.below HBV.out, oky.below HBV.out⟩
          have HB5 : Hid (Below W1.heap.size W1 V2) := below_new hB HBV.out
          have HE6 : Hid (V2.cell? ⟨gx, 6, none⟩ = some (.slice sp S sc) ∧ V2.cell? ⟨gy, 6, none⟩ = some (.slice tp S tc)) := ⟨by simpa using x6, by simpa using y6⟩
          clear q0 q1 q2 q3 q4 q5 q6 r0 r1 r2 r3 r4 r5 r6 x0 x1 x2 x3 x4 x5 x6 y0 y1 y2 y3 y4 y5 y6 okx oky c1 d1 hV1 hV2 hgx hgy HBV HWB
          go_loopw [8] (fun y w2 => ∃ j : Nat, y = .int .i64 (j : Nat) ∧ j ≤ S ∧ Hid (xL.take j = yL.take j) ∧ Below V2.heap.size V2 w2) (fun y _ => S - (intOf y).toNat)
          case atStart => exact ⟨0, rfl, Nat.zero_le _, rfl, Below.refl _ _⟩
          case round =>
            obtain ⟨j, rfl, hj, HJ, hBj⟩ := hrel
            have e6 := keep_cell hBj HE6.out.1
            have e7 := keep_cell hBj HE6.out.2
            by_cases hjS : j < S
            · have hji : (j : Int) < S := by omega
              obtain ⟨s, hs⟩ : ∃ s, xL[j]? = some s := ⟨_, List.getElem?_eq_getElem (by have := HS.out; omega)⟩
              obtain ⟨t, ht⟩ : ∃ t, yL[j]? = some t := ⟨_, List.getElem?_eq_getElem (by have := HT.out; omega)⟩
              obtain ⟨bs, os, rfl, -, hsa⟩ := (HSX.out.1.below hBj).at hs
              obtain ⟨bt, ot, rfl, -, hta⟩ := (HSX.out.2.below hBj).at ht
              obtain ⟨rr, hrr⟩ : ∃ rr, (!(decide (s.k = t.k) && decide (s.v = t.v))) = rr := ⟨_, rfl⟩
              have HR : Hid ((!(decide (s.k = t.k) && decide (s.v = t.v))) = rr) := hrr
              have HST : Hid (xL[j]? = some s ∧ yL[j]? = some t) := ⟨hs, ht⟩
              have hlds := fun W (hW : Below wr.heap.size wr W) => ldSlot (hsa.below hW)
              have hldt := fun W (hW : Below wr.heap.size wr W) => ldSlot (hta.below hW)
              clear hrr hs ht hsa hta
              obtain ⟨sk, sv⟩ := s
              obtain ⟨tk, tv⟩ := t
              unfold sla at hlds hldt
              dsimp only at *
              go_wp2_with fail
              refine wp_region_class (fun W => Below wr.heap.size wr W) mixedP (by kernel_rfl) (Below.refl _ _).drew ?_
              go_big_quiet_step (exact fun _ => rfl)
              refine wpQ_ld rfl _ _ rfl rfl (fun W hW => ldSl (keep_cell hW e6)) ?_
              go_frame
              go_big_quiet_step (exact fun _ => rfl)
              go_big_quiet_step (exact fun _ => rfl)
              refine wpQ_ld rfl _ _ rfl rfl (fun W hW => hlds W hW) ?_
              go_frame
              go_big_quiet_step (exact fun _ => rfl)
              refine wpQ_ld rfl _ _ rfl rfl (fun W hW => ldSl (keep_cell hW e7)) ?_
              go_frame
              go_big_quiet_step (exact fun _ => rfl)
              go_big_quiet_step (exact fun _ => rfl)
              refine wpQ_ld rfl _ _ rfl rfl (fun W hW => hldt W hW) ?_
              go_frame
              refine wpQ_neqSl rfl _ _ rfl rfl rfl HR.out ?_
              go_frame
              refine wpQuiet_nil ?_
              intro w7 hB7
              refine then_normalJ ?_
              have H7 : Hid (Below V2.heap.size V2 w7) := below_new hBj hB7
              clear hBj hB7 e6 e7 hlds hldt
              cases rr with
              | true =>
                have HNN := HNO.out (fun e => by
                  have h1 : xL = yL := congrArg Wr.L e
                  have h2 := HST.out.1
                  rw [h1, HST.out.2] at h2
                  injection h2 with h2
                  injection h2 with h3 h4
                  have h5 := HR.out
                  rw [h3, h4] at h5
                  simp at h5)
                go_wp2_with fail
                go_ret
                exact ⟨⟨_, rfl, by simp [HNN]⟩, by first | exact below_new HB.out (below_new HB5.out H7.out) | (rw [← HG.out]; exact below_new HB.out (below_new HB5.out H7.out))⟩
              | false =>
                have HJ2 : Hid (xL.take (j + 1) = yL.take (j + 1)) := by
                  have h5 := HR.out
                  simp only [Bool.not_eq_false', Bool.and_eq_true, decide_eq_true_eq] at h5
                  obtain ⟨rfl, rfl⟩ := h5
                  exact take_step' HST.out.1 HST.out.2 HJ.out
                go_wp2_with fail
                exact ⟨⟨j + 1, by go_num, by omega, HJ2, H7.out⟩, by simp [intOf]; omega⟩
            · have hji : ¬ (j : Int) < S := by omega
              have HEQ : Hid (xL = yL) := by
                have h1 := HJ.out
                rw [List.take_of_length_le (by have := HS.out; omega), List.take_of_length_le (by have := HT.out; omega)] at h1
                exact h1
              have HI2 : Hid ((L.take (i + 1)).map Wr.bare = (K.take (i + 1)).map Wr.bare) := bare_step HX.out.1 HX.out.2 (by unfold Wr.bare; dsimp only; rw [HEQ.out]) HI.out
              have H8 : Hid (Below W1.heap.size W1 wr) := below_new HB5.out hBj
              clear hBj
              go_wp2_with fail
              exact ⟨⟨i + 1, by go_num, by omega, HI2, H8.out⟩, by simp [intOf]; omega⟩
        · have hii : ¬ (i : Int) < N := by omega
          obtain rfl : i = N := by omega
          have HEQ : Hid (L.map Wr.bare = K.map Wr.bare) := by
            have h1 := HI.out
            rw [List.take_of_length_le (by have := HN.out; omega), List.take_of_length_le (by have := HM.out; omega)] at h1
            exact h1
          have HF : Hid (Below w.heap.size w wr) := below_new HB.out hB
          go_wp2_with fail
          go_ret
          exact ⟨⟨_, rfl, by simp [HEQ.out]⟩, by first | exact HF.out | (rw [← HG.out]; exact HF.out)⟩
    · have hlen' : ¬ (N : Int) = M := by omega
      have HNN : ¬ L.map Wr.bare = K.map Wr.bare := fun e => hlen (by
        have := congrArg List.length e
        rw [List.length_map, List.length_map, HN.out, HM.out] at this
        exact this)
      go_enter Try.func15, Try.ntmps15
      go_wp2_with fail
      go_ret
      exact ⟨⟨_, rfl, by simp [HNN]⟩, by first | exact HB.out | (rw [← HG.out]; exact HB.out)⟩
  · go_enter Try.func15, Try.ntmps15
    go_wp2_with fail
    go_ret
    exact ⟨⟨_, rfl, by simp [hnm]⟩, by first | exact HB.out | (rw [← HG.out]; exact HB.out)⟩
end Go.Proofs.Ytadpopjhhanapaa
