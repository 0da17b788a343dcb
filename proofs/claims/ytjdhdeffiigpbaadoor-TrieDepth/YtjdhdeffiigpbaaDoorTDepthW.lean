/-
  TrieDepth's walk.
-/
import Derived.Test.YtjdhdeffiigpbaaDoorTLG
import Derived.Test.YtjdhdeffiigpbaaDoorTDG
namespace Go.Proofs.YtjdhdeffiigpbaaDoor
open Go Go.RowKit Go.BigFrame Nb Dt

theorem ldStrT {w : World} {ad : Addr} {x : ByteArray} (h : w.cell? ad = some (.string x)) : (loadVar 9 ad).run Tryd.prog w = .ok (.string x) w := by simp [go_sem, h]
section
variable {ops : Array Oper} {Q : Exit → Act → World → Prop} {Kt : Act → World → Prop} {k : Nat} {op : Oper} {a : Act} {w : World} {base : Nat} {v : Value} {L : List Pr}
theorem op_append1 (d : Option Tmp) (hdd : op.dst = d) (hk : ops[k]? = some op) (hw : Region.wanted op (yielded ops a.tmps) = true) (s x : Operand) {p : Pr} {g : Nat}
    (ho : op.op = .call { callee := .builtin .append, args := #[s, x], argTypes := #[30, 30] }) (hs : a.eval s = v) (hx : a.eval x = .slice (some ⟨g, 0, none⟩) 1 1) (hown : OwnPairs w base v L) (hy : PairAt w g 0 p) (hl : L.length + 1 ≤ 1000000000) (hbase : base ≤ w.heap.size)
    (h : ∀ v' w', OwnPairs w' base v' (L ++ [p]) → w.grownBy w' v.ownBlock → Kt (a.put d v') w') : wpOp Tryd.prog ops Q k Kt a w := by
  have hy' : PairsAt w (.slice (some ⟨g, 0, none⟩) 1 1) [p] := .inr ⟨g, 0, 1, rfl, Nat.le_refl _, fun i x hx => by
    match i, hx with
    | 0, hx => obtain rfl := Option.some.inj hx; exact hy⟩
  obtain ⟨v', w', hr, h2, h3⟩ := run_append_pr op.type hown hy' (by simpa using hl) hbase
  refine op_val d hdd hk hw (v := v') (w' := w') ?_ (h v' w' h2 h3)
  unfold execOp
  simp only [ho, resolve, invoke, builtin, Sem.run_bind, Sem.run_pure, Result.andThen_ok, List.map_toArray, List.map_cons, List.map_nil, hs, hx, hr]
end

theorem shift_snoc (a : ByteArray) {L : List Pr} {i : Nat} {x : Pr} (h : L[i]? = some x) : shift a (L.take (i + 1)) = shift a (L.take i) ++ [shiftP a x] := by
  unfold shift
  rw [List.take_add_one, h, List.map_append]; rfl
theorem drop_snoc {L : List Pr} {i : Nat} {x : Pr} (h : L[i]? = some x) (hi : 1 ≤ i) : (L.drop 1).take (i + 1 - 1) = (L.drop 1).take (i - 1) ++ [x] := by
  have e : i + 1 - 1 = (i - 1) + 1 := by omega
  rw [e, List.take_add_one, List.getElem?_drop, show 1 + (i - 1) = i by omega, h]; rfl
set_option maxRecDepth 16000 in
set_option maxHeartbeats 16000000 in
theorem depth_walk (v : Value) (R : List Pr) (n : Int) (row : ByteArray) (w : World) (hP : PairsAt w v R) (hRl : R.length ≤ 9223372036854775807) (hn : -9223372036854775808 ≤ n ∧ n ≤ 9223372036854775807) (hT : K.Tabs w) :
    Calls Tryd.prog 4 #[v, .int .i64 n, .string row] w fun e w' => e = .returned (.bool true) ∧ Below w.heap.size w w' := by
  have hrp := run_pair
  have hrp1 := run_pair1
  have HT : Hid (K.Tabs w) := hT
  have haw := awake_any w hT
  clear hT
  go_enter Tryd.func4, Tryd.ntmps4
  go_wp2_with fail
  refine haw.mono ?_
  rintro e w1 ⟨rfl, hB1⟩
  have HB1 : Hid (Below w.heap.size w w1) := hB1
  have hmd := made_any v R n w1 (hP.below hB1) hn hRl
  clear haw hB1 hP hRl hn
  go_wp2_with fail
  refine hmd.mono ?_
  rintro e w2 ⟨v', L, m, rfl, hO, hM, hB2⟩
  have HB2 : Hid (Below w.heap.size w w2) := HB1.out.trans (hB2.mono HB1.out.size)
  have hT2 := HT.out.below HB2.out
  have hP2 := hO.at
  obtain ⟨pn, cn, rfl⟩ := hP2.shape
  clear hmd hB2 HB1 hO HT
  match L, hP2, hM with
  | [], hP2, hM =>
    clear hP2 hM hT2
    go_wp2_with fail
    go_ret
    exact ⟨rfl, HB2.out⟩
  | (x0, y0) :: l, hP2, hM =>
    obtain ⟨g, o, hpn, _, hxa⟩ := hP2.at (i := 0) (x := (x0, y0)) rfl
    subst hpn
    by_cases hr20 : 20 < row.size
    · have hr20i : (20 : Int) < row.size := by omega
      have hcut : ∀ W : World, (Instr.sliceAt 9 (.string row) none (some (.int .i64 20)) none).run Tryd.prog W = .ok (.string (row.extract 0 20)) W := fun W => slice_cut row 20 (by omega) W
      obtain ⟨rr, hrr⟩ : ∃ rr, row.extract 0 20 = rr := ⟨_, rfl⟩
      have hrs : rr.size ≤ 20 := by rw [← hrr, ByteArray.size_extract]; omega
      rw [hrr] at hcut
      have hof := refOf_any rr w2 (by omega)
      obtain ⟨a, hae⟩ : ∃ a : ByteArray, (⟨(hal rr.data.toList).toArray⟩ : ByteArray) = a := ⟨_, rfl⟩
      rw [hae] at hof
      clear hrr hr20
      have hr40 : a.size ≤ 40 := by rw [← hae, hal_size]; omega
      have har : rightL a.data.toList = true := by rw [← hae]; exact right_hal _
      obtain ⟨N, al, q, e, nA, nC, nB, xB, X1, HD0⟩ := depth_is hP2 hT2 hM har hr40
      obtain ⟨L, hL⟩ : ∃ L, (x0, y0) :: l = L := ⟨_, rfl⟩
      rw [hL] at HD0 hP2 ⊢
      have hLN := HD0.nums.1
      have hals := HD0.nums.2.2.2.2.1
      have hx0s := HD0.nums.2.2.2.2.2.2.1
      have hes := HD0.nums.2.2.2.2.2.2.2.1
      rw [hLN] at hP2 ⊢
      subst hals hx0s
      have HD : Hid (DepthIs w2 g o cn N x0.size a.size q e L x0 y0 a nA nC nB xB X1) := HD0
      have hn1 := HD0.nums.2.1
      have hn60 := HD0.nums.2.2.1
      have hm64 := HD0.nums.2.2.2.1
      obtain ⟨s1, hs1⟩ : ∃ s1, a.size + x0.size = s1 := ⟨_, rfl⟩
      have hs2 : (a.size : Int) + (x0.size : Int) = (s1 : Int) := by omega
      have hs3 : IntKind.i64.wrap (s1 : Int) = (s1 : Int) := by rw [IntKind.wrap_i64]; omega
      have hs4 : (s1 : Int) + 1 = (e : Int) := by omega
      have hs5 : IntKind.i64.wrap (e : Int) = (e : Int) := by rw [IntKind.wrap_i64]; omega
      have hN0 : (0 : Int) < N := by omega
      have hni : ¬ (N : Int) = 0 := by omega
      have HNM : Hid (N ≤ 60 ∧ x0.size ≤ 64 ∧ a.size ≤ 40) := ⟨hn60, hm64, hr40⟩
      clear HD0 hP2 hT2 hM har hr40 hL hLN hae hes hs1 hm64 hxa
      go_wp2_with fail
      refine hof.mono ?_
      rintro e' w3 ⟨rfl, hB3⟩
      have HB3 : Hid (Below w2.heap.size w2 w3) := hB3
      clear hB3 hof
      go_wp2_with fail
      go_loopw [10, 11] (fun vo zz wr => ∃ (i : Nat) (p' : Option Addr) (c' : Nat), i ≤ N ∧ zz = .int .i64 (i : Nat) ∧ vo = .slice p' i c' ∧ Hid (OwnPairs wr w2.heap.size (.slice p' i c') (shift a (L.take i))) ∧ Hid (Below w2.heap.size w2 wr)) (fun _ zz _ => N - (intOf zz).toNat)
      case atStart => exact ⟨0, none, 0, by omega, rfl, rfl, OwnPairs.nil _ _, HB3⟩
      case round =>
        obtain ⟨i, p', c', hi, rfl, rfl, HO, HB⟩ := hrel
        by_cases hlt : i < N
        · have hlti : (i : Int) < N := by omega
          have hi00 : (0 : Int) ≤ i := by omega
          obtain ⟨x, hx⟩ : ∃ x, L[i]? = some x := ⟨_, List.getElem?_eq_getElem (by rw [HD.out.nums.1]; exact hlt)⟩
          obtain ⟨x1, x2⟩ := x
          have HCL : Hid (∀ W, Below w2.heap.size w2 W → W.cell? ⟨g, o + i * 2, none⟩ = some (.string x1) ∧ W.cell? ⟨g, o + i * 2 + 1, none⟩ = some (.string x2)) := fun W hW => by
            obtain ⟨b', o', hp, _, hc⟩ := (HD.out.row W hW).1.at hx
            injection hp with hp
            injection hp with h1 h2 _
            subst h1 h2
            exact hc
          obtain ⟨ax, hax⟩ : ∃ ax, a ++ x1 = ax := ⟨_, rfl⟩
          have HAX : Hid (a ++ x1 = ax) := hax
          have HSS : Hid (shift a (L.take (i + 1)) = shift a (L.take i) ++ [(ax, x2)]) := by
            show _ = _
            rw [shift_snoc a hx, ← hax]; rfl
          have HML : Hid ((shift a (L.take i) ++ [(ax, x2)]).length = i + 1) := by
            show _ = _
            have := HD.out.nums.1
            rw [← HSS.out]
            unfold shift
            rw [List.length_map, List.length_take]; omega
          have hszs : a.size + x1.size ≤ 9223372036854775807 := by
            have h1 : x1.size = x0.size := HD.out.keys _ (List.mem_of_getElem? hx)
            have := HNM.out
            omega
          clear hx hax
          go_wp2_with fail
          refine wp_region_tree (fun W => Below w2.heap.size w2 W) [0, 1, 2, 3, 4, 5, 6, 7, 8, 9, 10, 11, 12, 13] (.one 14 (.one 15 (.one 16 .nil))) mixedP (by kernel_rfl) rfl (by kernel_rfl) (fun _ _ _ d _ h => by cases d <;> exact h) HB.out.drew ?_
          refine tk_val (some 48) rfl rfl rfl (.slice p' i c') (fun _ => by go_simp) ?_
          go_frame
          refine tk_val (some 49) rfl rfl rfl (.string a) (fun _ => by go_simp) ?_
          go_frame
          refine tk_val (some 50) rfl rfl rfl (.slice (some ⟨g, o, none⟩) N cn) (fun _ => by go_simp) ?_
          go_frame
          refine tk_val (some 51) rfl rfl rfl (.int .i64 (i : Nat)) (fun _ => by go_simp) ?_
          go_frame
          refine tk_val (some 52) rfl rfl rfl (.pointer (some ⟨g, o + i * 2, none⟩)) (fun _ => by have e := hlti; go_simp) ?_
          go_frame
          refine tk_val (some 53) rfl rfl rfl (.pointer (some ⟨g, o + i * 2, none⟩)) (fun _ => by go_simp) ?_
          go_frame
          refine tk_ld (some 54) rfl rfl rfl _ _ rfl rfl (fun W hW => ldStrT (HCL.out W hW).1) ?_
          go_frame
          refine tk_val (some 55) rfl rfl rfl (.string ax) (fun _ => by have e := HAX.out; have e2 := hszs; go_simp) ?_
          go_frame
          refine tk_val (some 56) rfl rfl rfl (.slice (some ⟨g, o, none⟩) N cn) (fun _ => by go_simp) ?_
          go_frame
          refine tk_val (some 57) rfl rfl rfl (.int .i64 (i : Nat)) (fun _ => by go_simp) ?_
          go_frame
          refine tk_val (some 58) rfl rfl rfl (.pointer (some ⟨g, o + i * 2, none⟩)) (fun _ => by have e := hlti; go_simp) ?_
          go_frame
          refine tk_val (some 59) rfl rfl rfl (.pointer (some ⟨g, o + i * 2 + 1, none⟩)) (fun _ => by go_simp) ?_
          go_frame
          refine tk_ld (some 60) rfl rfl rfl _ _ rfl rfl (fun W hW => ldStrT (HCL.out W hW).2) ?_
          go_frame
          refine tk_val (some 61) rfl rfl rfl (.agg #[.string ax, .string x2]) (fun _ => by have q := hrp ax x2; go_simp) ?_
          go_frame
          refine tk_nil ?_
          obtain ⟨w5, hw5⟩ : ∃ w5, wr.drew = w5 := ⟨_, rfl⟩
          have h5 : Below wr.heap.size wr w5 := hw5 ▸ (Below.refl _ _).drew
          rw [hw5]
          have hh5 : w5.heap.size = wr.heap.size := by rw [← hw5]; rfl
          have HB5 : Hid (Below w2.heap.size w2 w5) := HB.out.trans (h5.mono HB.out.size)
          have HO6 : Hid (OwnPairs (w5.alloc (.cells #[.string ax, .string x2] 33)) w2.heap.size (.slice p' i c') (shift a (L.take i)) ∧ PairAt (w5.alloc (.cells #[.string ax, .string x2] 33)) w5.heap.size 0 (ax, x2) ∧ w2.heap.size ≤ (w5.alloc (.cells #[.string ax, .string x2] 33)).heap.size ∧ (shift a (L.take i)).length + 1 ≤ 1000000000) :=
            ⟨(HO.out.below0 h5).below0 ((Below.refl _ _).alloc (Nat.le_refl _) _), pair_new w5 ax x2, by rw [World.size_alloc]; have := HB5.out.size; omega, by have := HML.out; rw [List.length_append] at this; have := HNM.out.1; have e1 : [((ax, x2) : Pr)].length = 1 := rfl; omega⟩
          have h5a : Below w2.heap.size w2 (w5.alloc (.cells #[.string ax, .string x2] 33)) := HB5.out.alloc HB5.out.size _
          refine op_val (some 62) rfl rfl rfl (v := .slice (some ⟨w5.heap.size, 0, none⟩) 1 1) (w' := w5.alloc (.cells #[.string ax, .string x2] 33)) (by have q := hrp1 (.string ax) (.string x2) w5; go_simp) ?_
          refine ⟨h5a, ?_⟩
          go_frame
          refine op_append1 (some 63) rfl rfl rfl _ _ rfl rfl rfl HO6.out.1 HO6.out.2.1 HO6.out.2.2.2 HO6.out.2.2.1 ?_
          intro v6 w6 hO7 hg6
          obtain ⟨p6, c6, hv6⟩ := hO7.at.shape
          rw [HML.out] at hv6
          subst hv6
          have hB6r : Below w2.heap.size w2 w6 := below_grownT h5a hg6 fun q hq => (HO6.out.1.lt q hq).1
          refine ⟨hB6r, ?_⟩
          go_frame
          refine op_val (some 10) rfl rfl rfl (v := .slice p6 (i + 1) c6) (w' := w6) (by go_simp) ?_
          refine ⟨hB6r, ?_⟩
          go_frame
          have HB6 : Hid (Below w2.heap.size w2 w6) := hB6r
          clear h5 HCL h5a hw5 hh5 hB6r
          show Exit.inBlock 1 _ Exit.normal _ _
          go_wp2_with fail
          have HO7 : Hid (OwnPairs w6 w2.heap.size (.slice p6 (i + 1) c6) (shift a (L.take (i + 1)))) := by
            show OwnPairs _ _ _ _
            rw [HSS.out]; exact hO7
          clear hg6 hO7
          go_roundw
          case rel => exact ⟨i + 1, p6, c6, by omega, by simp, rfl, HO7, HB6⟩
          case measure => simp [intOf]; omega
        · have hlti : ¬ (i : Int) < N := by omega
          have hiN : i = N := by omega
          subst hiN
          have HLG : Hid (∀ W, Below wr.heap.size wr W → PairsAt W (.slice p' i c') (shift a L) ∧ K.Tabs W) := fun W hW => by
            have h1 := HO.out.at.below hW
            rw [List.take_of_length_le (by rw [HD.out.nums.1]; exact Nat.le_refl _)] at h1
            exact ⟨h1, (HD.out.row W (HB.out.trans (hW.mono HB.out.size))).2⟩
          clear hlt hi HO HB3
          go_wp2_with fail
          refine (HD.out.nodeA wr HB.out).mono ?_
          rintro e' w4 ⟨rfl, hB4⟩
          go_wp2_with fail
          refine (HD.out.nodeB w4 _ (HLG.out w4 hB4).1 (HLG.out w4 hB4).2).mono ?_
          rintro e' w5 ⟨rfl, hB5⟩
          have hB45 := hB4.trans (hB5.mono hB4.size)
          go_wp2_with fail
          refine (HD.out.nodeC w5 _ (HLG.out w5 hB45).1 (HLG.out w5 hB45).2).mono ?_
          rintro e' w6 ⟨rfl, hB6⟩
          have hB46 := hB45.trans (hB6.mono hB45.size)
          have HB6 : Hid (Below wr.heap.size wr w6 ∧ Below w2.heap.size w2 w6) := ⟨hB46, HB.out.trans (hB46.mono HB.out.size)⟩
          have HC0 : Hid (∀ W, Below w2.heap.size w2 W → W.cell? ⟨g, o, none⟩ = some (.string x0)) := fun W hW => by
            obtain ⟨b', o', hp, _, hc⟩ := (HD.out.row W hW).1.at HD.out.head
            injection hp with hp
            injection hp with h1 h2 _
            subst h1 h2
            have := hc.1
            rwa [Nat.zero_mul, Nat.add_zero] at this
          have c0 := HC0.out w6 HB6.out.2
          clear hB4 hB5 hB6 hB45 hB46 HB
          go_wp2_with fail
          refine (HD.out.nodeD w6 _ (HLG.out w6 HB6.out.1).1 (HLG.out w6 HB6.out.1).2).mono ?_
          rintro e' w7 ⟨rfl, hB7⟩
          have HB7 : Hid (Below w2.heap.size w2 w7) := HB6.out.2.trans (hB7.mono HB6.out.2.size)
          clear hB7 HB6 HLG c0 hs2 hs3 hs4 hs5
          by_cases h0 : a.size = 0
          · have h0i : (a.size : Int) = 0 := by omega
            have hca := HD.out.same h0
            rw [hca]
            by_cases h1 : i = 1
            · have h1i : (i : Int) = 1 := by omega
              clear hca
              go_wp2_with fail
              go_ret
              exact ⟨rfl, HB2.out.trans (HB7.out.mono HB2.out.size)⟩
            · have h1i : ¬ (i : Int) = 1 := by omega
              clear hca
              go_wp2_with fail
              go_ret
              exact ⟨rfl, HB2.out.trans (HB7.out.mono HB2.out.size)⟩
          · have h0i : ¬ (a.size : Int) = 0 := by omega
            have hca := HD.out.differ h0
            have hcb : ¬ nC = nA := hca
            have hcd : decide (nC = nA) = false := decide_eq_false hca
            have hce : (nC.toList == nA.toList) = false := by
              cases hb : (nC.toList == nA.toList) with
              | false => rfl
              | true =>
                rw [beq_iff_eq, lb, lb] at hb
                exact absurd (ByteArray.ext (Array.toList_inj.1 hb)) hca
            have hze : ((a.size : Int) == 0) = false := by simpa using h0i
            by_cases h1 : i = 1
            · have h1i : (i : Int) = 1 := by omega
              go_wp2_with fail
              go_ret
              exact ⟨rfl, HB2.out.trans (HB7.out.mono HB2.out.size)⟩
            · have h1i : ¬ (i : Int) = 1 := by omega
              obtain ⟨aX, haX⟩ : ∃ aX, a ++ X1 = aX := ⟨_, rfl⟩
              have HAX : Hid (a ++ X1 = aX) := haX
              have hxt := HD.out.extP (by omega) h0
              rw [haX] at hxt
              have HXT : Hid (∀ W, Calls Tryd.prog 10 #[.string aX, .string xB] W fun e w' => e = .returned (.tuple #[.string nC, .int .i64 0]) ∧ Below W.heap.size W w') := hxt
              have HXS : Hid (a.size + X1.size ≤ 9223372036854775807) := HD.out.small
              have HNP : Hid (2 ≤ i) := by show 2 ≤ i; omega
              have HCUT : Hid (∀ W : World, (Instr.sliceAt 9 (.string x0) none (some (.int .i64 (q : Int))) none).run Tryd.prog W = .ok (.string X1) W) := HD.out.cut
              have c0 := HC0.out w7 HB7.out
              have HLS : Hid (minPre (kb (x0, y0)) (L.drop 1) = q) := HD.out.least
              have hx0m : x0.size ≤ 64 := HNM.out.2.1
              clear haX hxt hca hcb hcd
              go_wp2_with fail
              go_loopw [20, 21] (fun pv zz wr => ∃ j k : Nat, 1 ≤ j ∧ j ≤ i ∧ zz = .int .i64 (j : Nat) ∧ pv = .int .i64 (k : Nat) ∧ Hid (k = minPre (kb (x0, y0)) ((L.drop 1).take (j - 1))) ∧ Hid (Below w2.heap.size w2 wr)) (fun _ zz _ => i - (intOf zz).toNat)
              case atStart => exact ⟨1, x0.size, Nat.le_refl _, by omega, rfl, rfl, rfl, HB7⟩
              case round =>
                clear HB7 c0 hce hze
                obtain ⟨j, k, hj1, hji, rfl, rfl, HK, HB⟩ := hrel
                by_cases hjl : j < i
                · have hlti : (j : Int) < i := by omega
                  have hi00 : (0 : Int) ≤ j := by omega
                  obtain ⟨x, hx⟩ : ∃ x, L[j]? = some x := ⟨_, List.getElem?_eq_getElem (by rw [HD.out.nums.1]; exact hjl)⟩
                  have hxk : x.1.size = x0.size := HD.out.keys _ (List.mem_of_getElem? hx)
                  have HDS : Hid ((L.drop 1).take (j + 1 - 1) = (L.drop 1).take (j - 1) ++ [x]) := drop_snoc hx hj1
                  have HMS : Hid (minPre (kb (x0, y0)) ((L.drop 1).take (j + 1 - 1)) = min k (pre (kb (x0, y0)) (kb x))) := by
                    show _ = _
                    rw [HDS.out, minPre_snoc, ← HK.out]
                  obtain ⟨x1, x2⟩ := x
                  have HCL : Hid (∀ W, Below wr.heap.size wr W → W.cell? ⟨g, o, none⟩ = some (.string x0) ∧ W.cell? ⟨g, o + j * 2, none⟩ = some (.string x1)) := fun W hW => by
                    have hW2 := HB.out.trans (hW.mono HB.out.size)
                    obtain ⟨b', o', hp, _, hc⟩ := (HD.out.row W hW2).1.at hx
                    injection hp with hp
                    injection hp with h1 h2 _
                    subst h1 h2
                    exact ⟨HC0.out W hW2, hc.1⟩
                  have hpx := fun W => refPrefix_drew x0 x1 W (by omega) (by show x1.size ≤ _; have e : x1.size = x0.size := hxk; omega)
                  obtain ⟨kk, hkk⟩ : ∃ kk, pre x0.data.toList x1.data.toList = kk := ⟨_, rfl⟩
                  rw [hkk] at hpx
                  have HPX : Hid (∀ W, Calls Tryd.prog 19 #[.string x0, .string x1] W fun e w' => e = .returned (.int .i64 (kk : Nat)) ∧ Below W.heap.size W w') := fun W => (hpx W).mono fun e w' ⟨he, n, hn⟩ => ⟨he, by
                    rw [hn]
                    have hb := Below.refl W.heap.size W
                    exact ⟨hb.os, hb.tape, hb.output, hb.size, hb.block⟩⟩
                  have HKK : Hid (pre (kb (x0, y0)) (kb (x1, x2)) = kk) := hkk
                  clear hx hxk hpx hkk HDS
                  go_wp2_with fail
                  refine wp_region_all (fun w5 => Below wr.heap.size wr w5) mixedP (by kernel_rfl) ((Below.refl _ _).drew) ?_
                  go_big_quiet_step (fail)
                  refine cq_val rfl (.pointer (some ⟨g, o, none⟩)) (fun w5 h5 => by have e := hN0; go_simp; intro h; omega) ?_
                  go_frame
                  refine cq_val rfl (.pointer (some ⟨g, o, none⟩)) (fun w5 h5 => by go_simp) ?_
                  go_frame
                  refine cq_val rfl (.string x0) (fun w5 h5 => by have q := (HCL.out w5 h5).1; go_simp) ?_
                  go_frame
                  go_big_quiet_step (fail)
                  go_big_quiet_step (fail)
                  refine cq_val rfl (.pointer (some ⟨g, o + j * 2, none⟩)) (fun w5 h5 => by have e := hlti; go_simp) ?_
                  go_frame
                  refine cq_val rfl (.pointer (some ⟨g, o + j * 2, none⟩)) (fun w5 h5 => by go_simp) ?_
                  go_frame
                  refine cq_val rfl (.string x1) (fun w5 h5 => by have q := (HCL.out w5 h5).2; go_simp) ?_
                  go_frame
                  refine cq_call rfl 19 #[.string x0, .string x1] (fun _ => by go_simp) (.int .i64 (kk : Nat)) (fun w5 h5 => (HPX.out w5).mono fun e w6 ⟨he, h6⟩ => ⟨he, h5.trans (h6.mono h5.size)⟩) ?_
                  go_frame
                  go_big_quiet_step (fail)
                  refine wpQuiet_nil ?_
                  intro w8 hB8
                  simp only [Exit.then]
                  go_at_K
                  have HB8 : Hid (Below w2.heap.size w2 w8) := HB.out.trans (hB8.mono HB.out.size)
                  clear hB8 HCL HB
                  by_cases hlk : kk < k
                  · have hlki : (kk : Int) < k := by omega
                    go_wp2_with fail
                    go_roundw
                    case rel => exact ⟨j + 1, kk, by omega, by omega, by simp, rfl, by show _ = _; rw [HMS.out, HKK.out, Nat.min_eq_right (by omega)], HB8⟩
                    case measure => simp [intOf]; omega
                  · have hlki : ¬ (kk : Int) < k := by omega
                    go_wp2_with fail
                    go_roundw
                    case rel => exact ⟨j + 1, k, by omega, by omega, by simp, rfl, by show _ = _; rw [HMS.out, HKK.out, Nat.min_eq_left (by omega)], HB8⟩
                    case measure => simp [intOf]; omega
                · have hlti : ¬ (j : Int) < i := by omega
                  have hjN : j = i := by omega
                  have hkq : k = q := by
                    rw [HK.out, ← HLS.out, hjN, List.take_of_length_le (by rw [List.length_drop, HD.out.nums.1]; exact Nat.le_refl _)]
                  subst hkq
                  clear HK hjN hjl hj1 hji
                  go_wp2_with fail
                  refine (HD.out.nodeP HNP.out wr HB.out).mono ?_
                  rintro e' w8 ⟨rfl, hB8⟩
                  have HB8 : Hid (Below w2.heap.size w2 w8) := HB.out.trans (hB8.mono HB.out.size)
                  have HCL : Hid (∀ W, Below w8.heap.size w8 W → W.cell? ⟨g, o, none⟩ = some (.string x0) ∧ K.Tabs W) := fun W hW => ⟨HC0.out W (HB8.out.trans (hW.mono HB8.out.size)), (HD.out.row W (HB8.out.trans (hW.mono HB8.out.size))).2⟩
                  have hXs : a.size + X1.size ≤ 9223372036854775807 := HXS.out
                  clear hB8 HB
                  go_wp2_with fail
                  refine wp_region_all (fun w5 => Below w8.heap.size w8 w5) mixedP (by kernel_rfl) ((Below.refl _ _).drew) ?_
                  go_big_quiet_step (fail)
                  go_big_quiet_step (fail)
                  refine cq_val rfl (.pointer (some ⟨g, o, none⟩)) (fun w5 h5 => by have e := hN0; go_simp; intro h; omega) ?_
                  go_frame
                  refine cq_val rfl (.pointer (some ⟨g, o, none⟩)) (fun w5 h5 => by go_simp) ?_
                  go_frame
                  refine cq_val rfl (.string x0) (fun w5 h5 => by have q := (HCL.out w5 h5).1; go_simp) ?_
                  go_frame
                  go_big_quiet_step (fail)
                  refine cq_val rfl (.string X1) (fun w5 h5 => by have q := HCUT.out; go_simp) ?_
                  go_frame
                  refine cq_val rfl (.string aX) (fun w5 h5 => by have e := HAX.out; have e2 := hXs; go_simp) ?_
                  go_frame
                  go_big_quiet_step (fail)
                  refine cq_call rfl 14 #[.string nB] (fun _ => by go_simp) (.string xB) (fun w5 h5 => (HD.out.refP w5 (HCL.out w5 h5).2).mono fun e w6 ⟨he, h6⟩ => ⟨he, h5.trans (h6.mono h5.size)⟩) ?_
                  go_frame
                  refine cq_call rfl 10 #[.string aX, .string xB] (fun _ => by go_simp) (.tuple #[.string nC, .int .i64 0]) (fun w5 h5 => (HXT.out w5).mono fun e w6 ⟨he, h6⟩ => ⟨he, h5.trans (h6.mono h5.size)⟩) ?_
                  go_frame
                  go_big_quiet_step (fail)
                  refine cq_val rfl (.string nC) (fun w5 h5 => by go_simp) ?_
                  go_frame
                  refine cq_val rfl (.int .i64 0) (fun w5 h5 => by go_simp) ?_
                  go_frame
                  go_big_quiet_step (fail)
                  go_big_quiet_step (fail)
                  refine wpQuiet_nil ?_
                  intro w9 hB9
                  simp only [Exit.then]
                  go_at_K
                  go_wp2_with fail
                  go_ret
                  exact ⟨rfl, HB2.out.trans ((HB8.out.trans (hB9.mono HB8.out.size)).mono HB2.out.size)⟩
    · have hr20i : ¬ (20 : Int) < row.size := by omega
      have hof := refOf_any row w2 (by omega)
      obtain ⟨a, hae⟩ : ∃ a : ByteArray, (⟨(hal row.data.toList).toArray⟩ : ByteArray) = a := ⟨_, rfl⟩
      rw [hae] at hof
      have hrs : row.size ≤ 20 := by omega
      clear hr20
      have hr40 : a.size ≤ 40 := by rw [← hae, hal_size]; omega
      have har : rightL a.data.toList = true := by rw [← hae]; exact right_hal _
      obtain ⟨N, al, q, e, nA, nC, nB, xB, X1, HD0⟩ := depth_is hP2 hT2 hM har hr40
      obtain ⟨L, hL⟩ : ∃ L, (x0, y0) :: l = L := ⟨_, rfl⟩
      rw [hL] at HD0 hP2 ⊢
      have hLN := HD0.nums.1
      have hals := HD0.nums.2.2.2.2.1
      have hx0s := HD0.nums.2.2.2.2.2.2.1
      have hes := HD0.nums.2.2.2.2.2.2.2.1
      rw [hLN] at hP2 ⊢
      subst hals hx0s
      have HD : Hid (DepthIs w2 g o cn N x0.size a.size q e L x0 y0 a nA nC nB xB X1) := HD0
      have hn1 := HD0.nums.2.1
      have hn60 := HD0.nums.2.2.1
      have hm64 := HD0.nums.2.2.2.1
      obtain ⟨s1, hs1⟩ : ∃ s1, a.size + x0.size = s1 := ⟨_, rfl⟩
      have hs2 : (a.size : Int) + (x0.size : Int) = (s1 : Int) := by omega
      have hs3 : IntKind.i64.wrap (s1 : Int) = (s1 : Int) := by rw [IntKind.wrap_i64]; omega
      have hs4 : (s1 : Int) + 1 = (e : Int) := by omega
      have hs5 : IntKind.i64.wrap (e : Int) = (e : Int) := by rw [IntKind.wrap_i64]; omega
      have hN0 : (0 : Int) < N := by omega
      have hni : ¬ (N : Int) = 0 := by omega
      have HNM : Hid (N ≤ 60 ∧ x0.size ≤ 64 ∧ a.size ≤ 40) := ⟨hn60, hm64, hr40⟩
      clear HD0 hP2 hT2 hM har hr40 hL hLN hae hes hs1 hm64 hxa
      go_wp2_with fail
      refine hof.mono ?_
      rintro e' w3 ⟨rfl, hB3⟩
      have HB3 : Hid (Below w2.heap.size w2 w3) := hB3
      clear hB3 hof
      go_wp2_with fail
      go_loopw [10, 11] (fun vo zz wr => ∃ (i : Nat) (p' : Option Addr) (c' : Nat), i ≤ N ∧ zz = .int .i64 (i : Nat) ∧ vo = .slice p' i c' ∧ Hid (OwnPairs wr w2.heap.size (.slice p' i c') (shift a (L.take i))) ∧ Hid (Below w2.heap.size w2 wr)) (fun _ zz _ => N - (intOf zz).toNat)
      case atStart => exact ⟨0, none, 0, by omega, rfl, rfl, OwnPairs.nil _ _, HB3⟩
      case round =>
        obtain ⟨i, p', c', hi, rfl, rfl, HO, HB⟩ := hrel
        by_cases hlt : i < N
        · have hlti : (i : Int) < N := by omega
          have hi00 : (0 : Int) ≤ i := by omega
          obtain ⟨x, hx⟩ : ∃ x, L[i]? = some x := ⟨_, List.getElem?_eq_getElem (by rw [HD.out.nums.1]; exact hlt)⟩
          obtain ⟨x1, x2⟩ := x
          have HCL : Hid (∀ W, Below w2.heap.size w2 W → W.cell? ⟨g, o + i * 2, none⟩ = some (.string x1) ∧ W.cell? ⟨g, o + i * 2 + 1, none⟩ = some (.string x2)) := fun W hW => by
            obtain ⟨b', o', hp, _, hc⟩ := (HD.out.row W hW).1.at hx
            injection hp with hp
            injection hp with h1 h2 _
            subst h1 h2
            exact hc
          obtain ⟨ax, hax⟩ : ∃ ax, a ++ x1 = ax := ⟨_, rfl⟩
          have HAX : Hid (a ++ x1 = ax) := hax
          have HSS : Hid (shift a (L.take (i + 1)) = shift a (L.take i) ++ [(ax, x2)]) := by
            show _ = _
            rw [shift_snoc a hx, ← hax]; rfl
          have HML : Hid ((shift a (L.take i) ++ [(ax, x2)]).length = i + 1) := by
            show _ = _
            have := HD.out.nums.1
            rw [← HSS.out]
            unfold shift
            rw [List.length_map, List.length_take]; omega
          have hszs : a.size + x1.size ≤ 9223372036854775807 := by
            have h1 : x1.size = x0.size := HD.out.keys _ (List.mem_of_getElem? hx)
            have := HNM.out
            omega
          clear hx hax
          go_wp2_with fail
          refine wp_region_tree (fun W => Below w2.heap.size w2 W) [0, 1, 2, 3, 4, 5, 6, 7, 8, 9, 10, 11, 12, 13] (.one 14 (.one 15 (.one 16 .nil))) mixedP (by kernel_rfl) rfl (by kernel_rfl) (fun _ _ _ d _ h => by cases d <;> exact h) HB.out.drew ?_
          refine tk_val (some 48) rfl rfl rfl (.slice p' i c') (fun _ => by go_simp) ?_
          go_frame
          refine tk_val (some 49) rfl rfl rfl (.string a) (fun _ => by go_simp) ?_
          go_frame
          refine tk_val (some 50) rfl rfl rfl (.slice (some ⟨g, o, none⟩) N cn) (fun _ => by go_simp) ?_
          go_frame
          refine tk_val (some 51) rfl rfl rfl (.int .i64 (i : Nat)) (fun _ => by go_simp) ?_
          go_frame
          refine tk_val (some 52) rfl rfl rfl (.pointer (some ⟨g, o + i * 2, none⟩)) (fun _ => by have e := hlti; go_simp) ?_
          go_frame
          refine tk_val (some 53) rfl rfl rfl (.pointer (some ⟨g, o + i * 2, none⟩)) (fun _ => by go_simp) ?_
          go_frame
          refine tk_ld (some 54) rfl rfl rfl _ _ rfl rfl (fun W hW => ldStrT (HCL.out W hW).1) ?_
          go_frame
          refine tk_val (some 55) rfl rfl rfl (.string ax) (fun _ => by have e := HAX.out; have e2 := hszs; go_simp) ?_
          go_frame
          refine tk_val (some 56) rfl rfl rfl (.slice (some ⟨g, o, none⟩) N cn) (fun _ => by go_simp) ?_
          go_frame
          refine tk_val (some 57) rfl rfl rfl (.int .i64 (i : Nat)) (fun _ => by go_simp) ?_
          go_frame
          refine tk_val (some 58) rfl rfl rfl (.pointer (some ⟨g, o + i * 2, none⟩)) (fun _ => by have e := hlti; go_simp) ?_
          go_frame
          refine tk_val (some 59) rfl rfl rfl (.pointer (some ⟨g, o + i * 2 + 1, none⟩)) (fun _ => by go_simp) ?_
          go_frame
          refine tk_ld (some 60) rfl rfl rfl _ _ rfl rfl (fun W hW => ldStrT (HCL.out W hW).2) ?_
          go_frame
          refine tk_val (some 61) rfl rfl rfl (.agg #[.string ax, .string x2]) (fun _ => by have q := hrp ax x2; go_simp) ?_
          go_frame
          refine tk_nil ?_
          obtain ⟨w5, hw5⟩ : ∃ w5, wr.drew = w5 := ⟨_, rfl⟩
          have h5 : Below wr.heap.size wr w5 := hw5 ▸ (Below.refl _ _).drew
          rw [hw5]
          have hh5 : w5.heap.size = wr.heap.size := by rw [← hw5]; rfl
          have HB5 : Hid (Below w2.heap.size w2 w5) := HB.out.trans (h5.mono HB.out.size)
          have HO6 : Hid (OwnPairs (w5.alloc (.cells #[.string ax, .string x2] 33)) w2.heap.size (.slice p' i c') (shift a (L.take i)) ∧ PairAt (w5.alloc (.cells #[.string ax, .string x2] 33)) w5.heap.size 0 (ax, x2) ∧ w2.heap.size ≤ (w5.alloc (.cells #[.string ax, .string x2] 33)).heap.size ∧ (shift a (L.take i)).length + 1 ≤ 1000000000) :=
            ⟨(HO.out.below0 h5).below0 ((Below.refl _ _).alloc (Nat.le_refl _) _), pair_new w5 ax x2, by rw [World.size_alloc]; have := HB5.out.size; omega, by have := HML.out; rw [List.length_append] at this; have := HNM.out.1; have e1 : [((ax, x2) : Pr)].length = 1 := rfl; omega⟩
          have h5a : Below w2.heap.size w2 (w5.alloc (.cells #[.string ax, .string x2] 33)) := HB5.out.alloc HB5.out.size _
          refine op_val (some 62) rfl rfl rfl (v := .slice (some ⟨w5.heap.size, 0, none⟩) 1 1) (w' := w5.alloc (.cells #[.string ax, .string x2] 33)) (by have q := hrp1 (.string ax) (.string x2) w5; go_simp) ?_
          refine ⟨h5a, ?_⟩
          go_frame
          refine op_append1 (some 63) rfl rfl rfl _ _ rfl rfl rfl HO6.out.1 HO6.out.2.1 HO6.out.2.2.2 HO6.out.2.2.1 ?_
          intro v6 w6 hO7 hg6
          obtain ⟨p6, c6, hv6⟩ := hO7.at.shape
          rw [HML.out] at hv6
          subst hv6
          have hB6r : Below w2.heap.size w2 w6 := below_grownT h5a hg6 fun q hq => (HO6.out.1.lt q hq).1
          refine ⟨hB6r, ?_⟩
          go_frame
          refine op_val (some 10) rfl rfl rfl (v := .slice p6 (i + 1) c6) (w' := w6) (by go_simp) ?_
          refine ⟨hB6r, ?_⟩
          go_frame
          have HB6 : Hid (Below w2.heap.size w2 w6) := hB6r
          clear h5 HCL h5a hw5 hh5 hB6r
          show Exit.inBlock 1 _ Exit.normal _ _
          go_wp2_with fail
          have HO7 : Hid (OwnPairs w6 w2.heap.size (.slice p6 (i + 1) c6) (shift a (L.take (i + 1)))) := by
            show OwnPairs _ _ _ _
            rw [HSS.out]; exact hO7
          clear hg6 hO7
          go_roundw
          case rel => exact ⟨i + 1, p6, c6, by omega, by simp, rfl, HO7, HB6⟩
          case measure => simp [intOf]; omega
        · have hlti : ¬ (i : Int) < N := by omega
          have hiN : i = N := by omega
          subst hiN
          have HLG : Hid (∀ W, Below wr.heap.size wr W → PairsAt W (.slice p' i c') (shift a L) ∧ K.Tabs W) := fun W hW => by
            have h1 := HO.out.at.below hW
            rw [List.take_of_length_le (by rw [HD.out.nums.1]; exact Nat.le_refl _)] at h1
            exact ⟨h1, (HD.out.row W (HB.out.trans (hW.mono HB.out.size))).2⟩
          clear hlt hi HO HB3
          go_wp2_with fail
          refine (HD.out.nodeA wr HB.out).mono ?_
          rintro e' w4 ⟨rfl, hB4⟩
          go_wp2_with fail
          refine (HD.out.nodeB w4 _ (HLG.out w4 hB4).1 (HLG.out w4 hB4).2).mono ?_
          rintro e' w5 ⟨rfl, hB5⟩
          have hB45 := hB4.trans (hB5.mono hB4.size)
          go_wp2_with fail
          refine (HD.out.nodeC w5 _ (HLG.out w5 hB45).1 (HLG.out w5 hB45).2).mono ?_
          rintro e' w6 ⟨rfl, hB6⟩
          have hB46 := hB45.trans (hB6.mono hB45.size)
          have HB6 : Hid (Below wr.heap.size wr w6 ∧ Below w2.heap.size w2 w6) := ⟨hB46, HB.out.trans (hB46.mono HB.out.size)⟩
          have HC0 : Hid (∀ W, Below w2.heap.size w2 W → W.cell? ⟨g, o, none⟩ = some (.string x0)) := fun W hW => by
            obtain ⟨b', o', hp, _, hc⟩ := (HD.out.row W hW).1.at HD.out.head
            injection hp with hp
            injection hp with h1 h2 _
            subst h1 h2
            have := hc.1
            rwa [Nat.zero_mul, Nat.add_zero] at this
          have c0 := HC0.out w6 HB6.out.2
          clear hB4 hB5 hB6 hB45 hB46 HB
          go_wp2_with fail
          refine (HD.out.nodeD w6 _ (HLG.out w6 HB6.out.1).1 (HLG.out w6 HB6.out.1).2).mono ?_
          rintro e' w7 ⟨rfl, hB7⟩
          have HB7 : Hid (Below w2.heap.size w2 w7) := HB6.out.2.trans (hB7.mono HB6.out.2.size)
          clear hB7 HB6 HLG c0 hs2 hs3 hs4 hs5
          by_cases h0 : a.size = 0
          · have h0i : (a.size : Int) = 0 := by omega
            have hca := HD.out.same h0
            rw [hca]
            by_cases h1 : i = 1
            · have h1i : (i : Int) = 1 := by omega
              clear hca
              go_wp2_with fail
              go_ret
              exact ⟨rfl, HB2.out.trans (HB7.out.mono HB2.out.size)⟩
            · have h1i : ¬ (i : Int) = 1 := by omega
              clear hca
              go_wp2_with fail
              go_ret
              exact ⟨rfl, HB2.out.trans (HB7.out.mono HB2.out.size)⟩
          · have h0i : ¬ (a.size : Int) = 0 := by omega
            have hca := HD.out.differ h0
            have hcb : ¬ nC = nA := hca
            have hcd : decide (nC = nA) = false := decide_eq_false hca
            have hce : (nC.toList == nA.toList) = false := by
              cases hb : (nC.toList == nA.toList) with
              | false => rfl
              | true =>
                rw [beq_iff_eq, lb, lb] at hb
                exact absurd (ByteArray.ext (Array.toList_inj.1 hb)) hca
            have hze : ((a.size : Int) == 0) = false := by simpa using h0i
            by_cases h1 : i = 1
            · have h1i : (i : Int) = 1 := by omega
              go_wp2_with fail
              go_ret
              exact ⟨rfl, HB2.out.trans (HB7.out.mono HB2.out.size)⟩
            · have h1i : ¬ (i : Int) = 1 := by omega
              obtain ⟨aX, haX⟩ : ∃ aX, a ++ X1 = aX := ⟨_, rfl⟩
              have HAX : Hid (a ++ X1 = aX) := haX
              have hxt := HD.out.extP (by omega) h0
              rw [haX] at hxt
              have HXT : Hid (∀ W, Calls Tryd.prog 10 #[.string aX, .string xB] W fun e w' => e = .returned (.tuple #[.string nC, .int .i64 0]) ∧ Below W.heap.size W w') := hxt
              have HXS : Hid (a.size + X1.size ≤ 9223372036854775807) := HD.out.small
              have HNP : Hid (2 ≤ i) := by show 2 ≤ i; omega
              have HCUT : Hid (∀ W : World, (Instr.sliceAt 9 (.string x0) none (some (.int .i64 (q : Int))) none).run Tryd.prog W = .ok (.string X1) W) := HD.out.cut
              have c0 := HC0.out w7 HB7.out
              have HLS : Hid (minPre (kb (x0, y0)) (L.drop 1) = q) := HD.out.least
              have hx0m : x0.size ≤ 64 := HNM.out.2.1
              clear haX hxt hca hcb hcd
              go_wp2_with fail
              go_loopw [20, 21] (fun pv zz wr => ∃ j k : Nat, 1 ≤ j ∧ j ≤ i ∧ zz = .int .i64 (j : Nat) ∧ pv = .int .i64 (k : Nat) ∧ Hid (k = minPre (kb (x0, y0)) ((L.drop 1).take (j - 1))) ∧ Hid (Below w2.heap.size w2 wr)) (fun _ zz _ => i - (intOf zz).toNat)
              case atStart => exact ⟨1, x0.size, Nat.le_refl _, by omega, rfl, rfl, rfl, HB7⟩
              case round =>
                clear HB7 c0 hce hze
                obtain ⟨j, k, hj1, hji, rfl, rfl, HK, HB⟩ := hrel
                by_cases hjl : j < i
                · have hlti : (j : Int) < i := by omega
                  have hi00 : (0 : Int) ≤ j := by omega
                  obtain ⟨x, hx⟩ : ∃ x, L[j]? = some x := ⟨_, List.getElem?_eq_getElem (by rw [HD.out.nums.1]; exact hjl)⟩
                  have hxk : x.1.size = x0.size := HD.out.keys _ (List.mem_of_getElem? hx)
                  have HDS : Hid ((L.drop 1).take (j + 1 - 1) = (L.drop 1).take (j - 1) ++ [x]) := drop_snoc hx hj1
                  have HMS : Hid (minPre (kb (x0, y0)) ((L.drop 1).take (j + 1 - 1)) = min k (pre (kb (x0, y0)) (kb x))) := by
                    show _ = _
                    rw [HDS.out, minPre_snoc, ← HK.out]
                  obtain ⟨x1, x2⟩ := x
                  have HCL : Hid (∀ W, Below wr.heap.size wr W → W.cell? ⟨g, o, none⟩ = some (.string x0) ∧ W.cell? ⟨g, o + j * 2, none⟩ = some (.string x1)) := fun W hW => by
                    have hW2 := HB.out.trans (hW.mono HB.out.size)
                    obtain ⟨b', o', hp, _, hc⟩ := (HD.out.row W hW2).1.at hx
                    injection hp with hp
                    injection hp with h1 h2 _
                    subst h1 h2
                    exact ⟨HC0.out W hW2, hc.1⟩
                  have hpx := fun W => refPrefix_drew x0 x1 W (by omega) (by show x1.size ≤ _; have e : x1.size = x0.size := hxk; omega)
                  obtain ⟨kk, hkk⟩ : ∃ kk, pre x0.data.toList x1.data.toList = kk := ⟨_, rfl⟩
                  rw [hkk] at hpx
                  have HPX : Hid (∀ W, Calls Tryd.prog 19 #[.string x0, .string x1] W fun e w' => e = .returned (.int .i64 (kk : Nat)) ∧ Below W.heap.size W w') := fun W => (hpx W).mono fun e w' ⟨he, n, hn⟩ => ⟨he, by
                    rw [hn]
                    have hb := Below.refl W.heap.size W
                    exact ⟨hb.os, hb.tape, hb.output, hb.size, hb.block⟩⟩
                  have HKK : Hid (pre (kb (x0, y0)) (kb (x1, x2)) = kk) := hkk
                  clear hx hxk hpx hkk HDS
                  go_wp2_with fail
                  refine wp_region_all (fun w5 => Below wr.heap.size wr w5) mixedP (by kernel_rfl) ((Below.refl _ _).drew) ?_
                  go_big_quiet_step (fail)
                  refine cq_val rfl (.pointer (some ⟨g, o, none⟩)) (fun w5 h5 => by have e := hN0; go_simp; intro h; omega) ?_
                  go_frame
                  refine cq_val rfl (.pointer (some ⟨g, o, none⟩)) (fun w5 h5 => by go_simp) ?_
                  go_frame
                  refine cq_val rfl (.string x0) (fun w5 h5 => by have q := (HCL.out w5 h5).1; go_simp) ?_
                  go_frame
                  go_big_quiet_step (fail)
                  go_big_quiet_step (fail)
                  refine cq_val rfl (.pointer (some ⟨g, o + j * 2, none⟩)) (fun w5 h5 => by have e := hlti; go_simp) ?_
                  go_frame
                  refine cq_val rfl (.pointer (some ⟨g, o + j * 2, none⟩)) (fun w5 h5 => by go_simp) ?_
                  go_frame
                  refine cq_val rfl (.string x1) (fun w5 h5 => by have q := (HCL.out w5 h5).2; go_simp) ?_
                  go_frame
                  refine cq_call rfl 19 #[.string x0, .string x1] (fun _ => by go_simp) (.int .i64 (kk : Nat)) (fun w5 h5 => (HPX.out w5).mono fun e w6 ⟨he, h6⟩ => ⟨he, h5.trans (h6.mono h5.size)⟩) ?_
                  go_frame
                  go_big_quiet_step (fail)
                  refine wpQuiet_nil ?_
                  intro w8 hB8
                  simp only [Exit.then]
                  go_at_K
                  have HB8 : Hid (Below w2.heap.size w2 w8) := HB.out.trans (hB8.mono HB.out.size)
                  clear hB8 HCL HB
                  by_cases hlk : kk < k
                  · have hlki : (kk : Int) < k := by omega
                    go_wp2_with fail
                    go_roundw
                    case rel => exact ⟨j + 1, kk, by omega, by omega, by simp, rfl, by show _ = _; rw [HMS.out, HKK.out, Nat.min_eq_right (by omega)], HB8⟩
                    case measure => simp [intOf]; omega
                  · have hlki : ¬ (kk : Int) < k := by omega
                    go_wp2_with fail
                    go_roundw
                    case rel => exact ⟨j + 1, k, by omega, by omega, by simp, rfl, by show _ = _; rw [HMS.out, HKK.out, Nat.min_eq_left (by omega)], HB8⟩
                    case measure => simp [intOf]; omega
                · have hlti : ¬ (j : Int) < i := by omega
                  have hjN : j = i := by omega
                  have hkq : k = q := by
                    rw [HK.out, ← HLS.out, hjN, List.take_of_length_le (by rw [List.length_drop, HD.out.nums.1]; exact Nat.le_refl _)]
                  subst hkq
                  clear HK hjN hjl hj1 hji
                  go_wp2_with fail
                  refine (HD.out.nodeP HNP.out wr HB.out).mono ?_
                  rintro e' w8 ⟨rfl, hB8⟩
                  have HB8 : Hid (Below w2.heap.size w2 w8) := HB.out.trans (hB8.mono HB.out.size)
                  have HCL : Hid (∀ W, Below w8.heap.size w8 W → W.cell? ⟨g, o, none⟩ = some (.string x0) ∧ K.Tabs W) := fun W hW => ⟨HC0.out W (HB8.out.trans (hW.mono HB8.out.size)), (HD.out.row W (HB8.out.trans (hW.mono HB8.out.size))).2⟩
                  have hXs : a.size + X1.size ≤ 9223372036854775807 := HXS.out
                  clear hB8 HB
                  go_wp2_with fail
                  refine wp_region_all (fun w5 => Below w8.heap.size w8 w5) mixedP (by kernel_rfl) ((Below.refl _ _).drew) ?_
                  go_big_quiet_step (fail)
                  go_big_quiet_step (fail)
                  refine cq_val rfl (.pointer (some ⟨g, o, none⟩)) (fun w5 h5 => by have e := hN0; go_simp; intro h; omega) ?_
                  go_frame
                  refine cq_val rfl (.pointer (some ⟨g, o, none⟩)) (fun w5 h5 => by go_simp) ?_
                  go_frame
                  refine cq_val rfl (.string x0) (fun w5 h5 => by have q := (HCL.out w5 h5).1; go_simp) ?_
                  go_frame
                  go_big_quiet_step (fail)
                  refine cq_val rfl (.string X1) (fun w5 h5 => by have q := HCUT.out; go_simp) ?_
                  go_frame
                  refine cq_val rfl (.string aX) (fun w5 h5 => by have e := HAX.out; have e2 := hXs; go_simp) ?_
                  go_frame
                  go_big_quiet_step (fail)
                  refine cq_call rfl 14 #[.string nB] (fun _ => by go_simp) (.string xB) (fun w5 h5 => (HD.out.refP w5 (HCL.out w5 h5).2).mono fun e w6 ⟨he, h6⟩ => ⟨he, h5.trans (h6.mono h5.size)⟩) ?_
                  go_frame
                  refine cq_call rfl 10 #[.string aX, .string xB] (fun _ => by go_simp) (.tuple #[.string nC, .int .i64 0]) (fun w5 h5 => (HXT.out w5).mono fun e w6 ⟨he, h6⟩ => ⟨he, h5.trans (h6.mono h5.size)⟩) ?_
                  go_frame
                  go_big_quiet_step (fail)
                  refine cq_val rfl (.string nC) (fun w5 h5 => by go_simp) ?_
                  go_frame
                  refine cq_val rfl (.int .i64 0) (fun w5 h5 => by go_simp) ?_
                  go_frame
                  go_big_quiet_step (fail)
                  go_big_quiet_step (fail)
                  refine wpQuiet_nil ?_
                  intro w9 hB9
                  simp only [Exit.then]
                  go_at_K
                  go_wp2_with fail
                  go_ret
                  exact ⟨rfl, HB2.out.trans ((HB8.out.trans (hB9.mono HB8.out.size)).mono HB2.out.size)⟩
end Go.Proofs.YtjdhdeffiigpbaaDoor
