/-
  BlockBack: the law's walk.
-/
import Derived.Test.YtadpopjhhanapaaJSameW
namespace Go.Proofs.Ytadpopjhhanapaa
open Go Go.RowKit

section
variable {ops : Array Oper} {rest : List Oper} {op : Oper} {a : Act} {w : World} {Q : Exit → Act → World → Prop}
theorem wpList_eqlK (x y : Operand) (ho : op.op = .binOp .eql 9 x y 9) {u v : ByteArray} (hx : a.eval x = .string u) (hy : a.eval y = .string v) {r : Bool} (hr : decide (u = v) = r) (hw : Region.wanted op (yielded ops a.tmps) = true)
    (h : wpList Try.prog ops Q rest (a.put op.dst (.bool r)) w) : wpList Try.prog ops Q (op :: rest) a w :=
  wpList_step fun _ hK => by
    rw [if_pos hw]
    unfold Oper.wp
    rw [run_eqlJ _ x y a.eval hx hy ho w]
    rw [hr]
    exact hK _ _ h
end
set_option maxRecDepth 8000 in
set_option maxHeartbeats 16000000 in
theorem back_walk {w : World} {n m : Int} {u v : Value} {L K : List Wr} (hu : WritesAt w u L) (hv : WritesAt w v K) (hl : L.length ≤ 9223372036854775807) (hls : ∀ x ∈ L, x.L.length ≤ 9223372036854775807) (hk : K.length ≤ 9223372036854775807) (hks : ∀ x ∈ K, x.L.length ≤ 9223372036854775807) :
    Calls Try.prog 4 #[.agg #[.int .i64 n, u], .agg #[.int .i64 m, v]] w fun e w' => e = .returned (.bool true) ∧ Below w.heap.size w w' := by
  obtain ⟨p, c, rfl⟩ := hu.shape
  obtain ⟨p', c', rfl⟩ := hv.shape
  obtain ⟨W0, g, hW0, hg, hB0, hb0, -, -⟩ := box_block w n (.slice p L.length c)
  obtain ⟨W1, g1, hW1, hg1, hB1, hb1, -, -⟩ := box_block W0 m (.slice p' K.length c')
  have HB : Hid (Below w.heap.size w W1) := below_new hB0 hB1
  have HG : Hid (w.heap.size = g) := hg
  have HU : Hid (WritesAt W1 (.slice p L.length c) L) := (hu.below hB0).below hB1
  have HV : Hid (WritesAt W1 (.slice p' K.length c') K) := (hv.below hB0).below hB1
  have HLB : Hid (∀ W, Below W1.heap.size W1 W → Calls Try.prog 10 #[.agg #[.int .i64 n, .slice p L.length c]] W fun e w' => LPost L e ∧ Below W.heap.size W w') := fun W hW => little_any (HU.out.below hW) hl hls
  have HLC : Hid (∀ W, Below W1.heap.size W1 W → Calls Try.prog 10 #[.agg #[.int .i64 m, .slice p' K.length c']] W fun e w' => LPost K e ∧ Below W.heap.size W w') := fun W hW => little_any (HV.out.below hW) hk hks
  have HYB : Hid (Lit L → ∀ W, Below W1.heap.size W1 W → Calls Try.prog 11 #[.agg #[.int .i64 n, .slice p L.length c]] W fun e w' => e = .returned (bytV (bytesOf n L)) ∧ Below W.heap.size W w') := fun h W hW => kbytes_any (HU.out.below hW) (by have := h.1; omega)
  have HYC : Hid (Lit K → ∀ W, Below W1.heap.size W1 W → Calls Try.prog 11 #[.agg #[.int .i64 m, .slice p' K.length c']] W fun e w' => e = .returned (bytV (bytesOf m K)) ∧ Below W.heap.size W w') := fun h W hW => kbytes_any (HV.out.below hW) (by have := h.1; omega)
  have HS2 : Hid (Lit L → Lit K → ∀ W, Below W1.heap.size W1 W → Calls Try.prog 15 #[.agg #[.int .i64 n, .slice p L.length c], .agg #[.int .i64 m, .slice p' K.length c']] W fun e w' => SPost n m L K e ∧ Below W.heap.size W w') := fun h h' W hW => qsame_any (HU.out.below hW) (HV.out.below hW) (by have := h.1; omega) (by have := h'.1; omega) (fun x hx => by have := (h.2 x hx).l; omega)
  have HS1 : Hid (Lit L → ∀ W v' K', Below W1.heap.size W1 W → WritesAt W v' K' → K'.map Wr.bare = L.map Wr.bare → Calls Try.prog 15 #[.agg #[.int .i64 n, .slice p L.length c], .agg #[.int .i64 n, v']] W fun e w' => e = .returned (.bool true) ∧ Below W.heap.size W w') := fun h W v' K' hW h1 h2 => by
    have hlen : K'.length ≤ 4000000000000 := by
      have := congrArg List.length h2
      rw [List.length_map, List.length_map] at this
      have := h.1
      omega
    refine (qsame_any (n := n) (m := n) (HU.out.below hW) h1 (by have := h.1; omega) hlen (fun x hx => by have := (h.2 x hx).l; omega)).mono ?_
    rintro e w' ⟨⟨q, rfl, hq⟩, hB⟩
    rw [hq.2 ⟨rfl, h2.symm⟩]
    exact ⟨rfl, hB⟩
  have HRB : Hid (∀ s, bytesOf n L = some s → readOf s = some (n, L.map Wr.bare)) := fun s h => read_back h (fun x hx => (hu.1 x hx).2)
  have HIN : Hid (∀ s t, bytesOf n L = some s → bytesOf m K = some t → (s = t ↔ n = m ∧ L.map Wr.bare = K.map Wr.bare)) := fun s t h h' => bytes_inj h h' (fun x hx => (hu.1 x hx).2) (fun x hx => (hv.1 x hx).2)
  have HAW := awake_any W1
  have HH : Hid (Holds W1 g 24 #[.int .i64 n, .slice p L.length c] ∧ Holds W1 g1 24 #[.int .i64 m, .slice p' K.length c']) := ⟨below_holds hB1 hb0, hb1⟩
  clear hB0 hB1 hb0 hb1 hu hv hl hls hk hks HU HV
  generalize L.length = N at *
  generalize K.length = M at *
  generalize bytesOf n L = ob at *
  generalize bytesOf m K = oc at *
  go_enter Try.func4, Try.ntmps4
  go_wp2_with (first
    | (refine wpList_loadK _ rfl _ rfl a1 rfl ?_)
    | (go_at_call 9; refine HAW.mono ?_; rintro e w1 ⟨rfl, hB1⟩; have a1 := below_holds hB1 HH.out.1)
    | fail)
  refine (HLB.out w1 hB1).mono ?_
  rintro e w2 ⟨⟨b1, rfl, hlb⟩, hB2⟩
  have H2 := below_new hB1 hB2
  have b2 := below_holds H2 HH.out.2
  clear a1 hB1 hB2
  go_wp2_with (refine wpList_loadK _ rfl _ rfl b2 rfl ?_)
  refine (HLC.out w2 H2).mono ?_
  rintro e w3 ⟨⟨b3, rfl, hlc⟩, hB3⟩
  have H3 : Hid (Below W1.heap.size W1 w3) := below_new H2 hB3
  clear b2 H2 hB3
  have HF3 : Hid (Below w.heap.size w w3) := below_new HB.out H3.out
  cases b1 with
  | false =>
    clear hlb hlc
    go_wp2_with fail
    go_ret
    exact ⟨rfl, by first | exact HF3.out | (rw [← HG.out]; exact HF3.out)⟩
  | true =>
    cases b3 with
    | false =>
      clear hlb hlc
      go_wp2_with fail
      go_ret
      exact ⟨rfl, by first | exact HF3.out | (rw [← HG.out]; exact HF3.out)⟩
    | true =>
      have HLL : Hid (Lit L ∧ Lit K) := ⟨hlb rfl, hlc rfl⟩
      have HYB2 : Hid (∀ W, Below W1.heap.size W1 W → Calls Try.prog 11 #[.agg #[.int .i64 n, .slice p N c]] W fun e w' => e = .returned (bytV ob) ∧ Below W.heap.size W w') := HYB.out HLL.out.1
      have HYC2 : Hid (∀ W, Below W1.heap.size W1 W → Calls Try.prog 11 #[.agg #[.int .i64 m, .slice p' M c']] W fun e w' => e = .returned (.tuple #[.string (strV oc), .int .i64 (errV oc)]) ∧ Below W.heap.size W w') := fun W hW => by
        have := HYC.out HLL.out.2 W hW
        rw [bytV_eq] at this
        exact this
      have HS2' : Hid (∀ W, Below W1.heap.size W1 W → Calls Try.prog 15 #[.agg #[.int .i64 n, .slice p N c], .agg #[.int .i64 m, .slice p' M c']] W fun e w' => SPost n m L K e ∧ Below W.heap.size W w') := HS2.out HLL.out.1 HLL.out.2
      have HS1' : Hid (∀ W v' K', Below W1.heap.size W1 W → WritesAt W v' K' → K'.map Wr.bare = L.map Wr.bare → Calls Try.prog 15 #[.agg #[.int .i64 n, .slice p N c], .agg #[.int .i64 n, v']] W fun e w' => e = .returned (.bool true) ∧ Below W.heap.size W w') := HS1.out HLL.out.1
      have a3 := below_holds H3.out HH.out.1
      clear hlb hlc HYB HYC HS2 HS1 HLL HLB HLC HAW
      cases ob with
      | none =>
        simp only [bytV] at HYB2
        clear HRB HIN HS1'
        go_wp2_with (first
          | (refine wpList_loadK _ rfl _ rfl a5 rfl ?_)
          | (refine wpList_loadK _ rfl _ rfl b5 rfl ?_)
          | (refine wpList_loadK _ rfl _ rfl b4 rfl ?_)
          | (refine wpList_loadK _ rfl _ rfl a3 rfl ?_)
          | (go_at_call 11; refine (HYB2.out _ H3.out).mono ?_; rintro e w4 ⟨rfl, hB4⟩; have H4 := below_new H3.out hB4; have b4 := below_holds H4 HH.out.2; clear HYB2)
          | (go_at_call 11; refine (HYC2.out _ H4).mono ?_; rintro e w5 ⟨rfl, hB5⟩; have H5 := below_new H4 hB5; have a5 := below_holds H5 HH.out.1; have b5 := below_holds H5 HH.out.2; clear HYC2)
          | (go_at_call 15; refine (HS2'.out _ H5).mono ?_; rintro e w6 ⟨⟨q, rfl, hq⟩, hB6⟩; have H6 := below_new HB.out (below_new H5 hB6))
          | fail)
        go_ret
        exact ⟨rfl, by first | exact H6 | (rw [← HG.out]; exact H6)⟩
      | some s =>
        simp only [bytV] at HYB2
        have hrd := HRB.out s rfl
        have HRD : Hid (∀ W, Calls Try.prog 13 #[.string ⟨s.toArray⟩] W fun e w' => (∃ v' K, e = .returned (.tuple #[.agg #[.int .i64 n, v'], .int .i64 0]) ∧ WritesAt w' v' K ∧ K.map Wr.bare = L.map Wr.bare) ∧ Below W.heap.size W w') := fun W => read_some ⟨s.toArray⟩ (by simpa using hrd) W
        obtain ⟨S, hS⟩ : ∃ S : ByteArray, (⟨s.toArray⟩ : ByteArray) = S := ⟨_, rfl⟩
        have HSe : Hid (S.data.toList = s) := by show _ = _; rw [← hS]
        rw [hS] at HYB2 HRD
        clear hS hrd HRB
        go_wp2_with (first
          | (refine wpList_loadK _ rfl _ rfl a7 rfl ?_)
          | (refine wpList_loadK _ rfl _ rfl b7 rfl ?_)
          | (refine wpList_loadK _ rfl _ rfl a6 rfl ?_)
          | (refine wpList_loadK _ rfl _ rfl b4 rfl ?_)
          | (refine wpList_loadK _ rfl _ rfl a3 rfl ?_)
          | (go_at_call 11; refine (HYB2.out _ H3.out).mono ?_; rintro e w4 ⟨rfl, hB4⟩; have H4 := below_new H3.out hB4; have b4 := below_holds H4 HH.out.2; clear HYB2)
          | (go_at_call 11; refine (HYC2.out _ H4).mono ?_; rintro e w5 ⟨rfl, hB5⟩; have H5 := below_new H4 hB5; clear HYC2)
          | (go_at_call 13; refine (HRD.out _).mono ?_; rintro e w6 ⟨⟨v6, K6, rfl, hat, hK6⟩, hB6⟩
             obtain ⟨p6, c6, rfl⟩ := hat.shape
             have H6 := below_new (below_new H5 hB6) (below_new1 _ (.cells #[.int .i64 n, .slice p6 K6.length c6] 24))
             have hat6 := hat.below (below_new1 _ (.cells #[.int .i64 n, .slice p6 K6.length c6] 24))
             have a6 := below_holds H6 HH.out.1)
          | (go_at_call 15; have a7' := a7; refine (HS2'.out _ H7).mono ?_; rintro e w8 ⟨⟨q, rfl, hq⟩, hB8⟩; have H8 := below_new HB.out (below_new H7 hB8); clear HS2')
          | (go_at_call 15; refine (HS1'.out _ _ K6 H6 hat6 hK6).mono ?_; rintro e w7 ⟨rfl, hB7⟩; have H7 := below_new H6 hB7; have a7 := below_holds H7 HH.out.1; have b7 := below_holds H7 HH.out.2)
          | fail)
        · rename_i hoc
          have hb : ((S.toList == (strV oc).toList) == q) = true := by
            cases oc with
            | none => exact absurd hoc (by decide)
            | some t =>
              have h1 := HIN.out s t rfl rfl
              have h2 : S = (⟨t.toArray⟩ : ByteArray) ↔ s = t := by
                rw [← HSe.out]
                constructor
                · intro e; rw [e]
                · intro e; rw [← e, backB]
              show ((S.toList == (⟨t.toArray⟩ : ByteArray).toList) == q) = true
              rw [beqD]
              cases q with
              | true => rw [decide_eq_true (h2.2 (h1.2 (hq.1 rfl)))]; rfl
              | false =>
                rw [decide_eq_false (fun e => by have := hq.2 (h1.1 (h2.1 e)); cases this)]
                rfl
          go_ret
          refine ⟨?_, by first | exact H8 | (rw [← HG.out]; exact H8)⟩
          show Ending.returned (Value.bool ((S.toList == (strV oc).toList) == q)) = _
          rw [hb]
        · go_ret
          exact ⟨rfl, by first | exact H8 | (rw [← HG.out]; exact H8)⟩
end Go.Proofs.Ytadpopjhhanapaa
