/-
  Texts of this claim, put together.
-/
import Derived.Test.YtadpopjhhanapaaJScal
import Derived.Test.YtadpopjhhanapaaSplitW
import Derived.Test.YtadpopjhhanapaaJSameW
/-
  The document's Right (out of the texts of stage 4).
-/
namespace Go.Proofs.Ytadpopjhhanapaa
open Go Go.RowKit

def sizeV : Value → Nat
  | .string x => x.size
  | _ => 0
theorem list1 (x : ByteArray) (hp : 0 < x.size) : ∃ c l, x.data.toList = c :: l ∧ x[0] = c ∧ (x.extract 1 x.size).data.toList = l := by
  cases hl : x.data.toList with
  | nil => rw [← sizeB, hl] at hp; simp at hp
  | cons c l =>
    refine ⟨c, l, rfl, ?_, ?_⟩
    · rw [getB x 0 hp]; simp [hl]
    · have h1 : l.length = x.size - 1 := by rw [← sizeB, hl]; simp
      rw [extract_str, hl]
      show ((l.take (x.size - 1)).toArray).toList = l
      rw [← h1, List.take_length]
theorem trim_zero {x : ByteArray} (hp : 0 < x.size) (h : (x[0]).toNat = 0) : trimL (x.extract 1 x.size).data.toList = trimL x.data.toList := by
  obtain ⟨c, l, h1, h2, h3⟩ := list1 x hp
  rw [h2] at h
  have : c = 0 := UInt8.toNat_inj.1 h
  subst this
  rw [h1, h3]
  conv => rhs; unfold trimL
  rw [if_pos rfl]
theorem trim_stop {x : ByteArray} (h : ∀ hp : 0 < x.size, ¬ (x[0]).toNat = 0) : trimL x.data.toList = x.data.toList := by
  by_cases hp : 0 < x.size
  · obtain ⟨c, l, h1, h2, _⟩ := list1 x hp
    have := h hp
    rw [h2] at this
    rw [h1]
    unfold trimL
    rw [if_neg (fun e => this (by rw [e]; rfl))]
  · rw [List.eq_nil_of_length_eq_zero (show x.data.toList.length = 0 by rw [sizeB]; omega)]
    rfl
theorem mk_lst (x : ByteArray) : (⟨x.data.toList.toArray⟩ : ByteArray) = x := by simp

theorem qtrim_any (x : ByteArray) (w : World) :
    Calls Try.prog 72 #[.string x] w fun e w' => e = .returned (.string ⟨(trimL x.data.toList).toArray⟩) ∧ w' = w := by
  obtain ⟨T, hT⟩ : ∃ T, trimL x.data.toList = T := ⟨_, rfl⟩
  rw [hT]
  have HT : Hid (trimL x.data.toList = T) := hT
  clear hT
  go_enter Try.func72, Try.ntmps72
  go_wp2_with fail
  go_loopw [0] (fun v wr => ∃ r : ByteArray, v = .string r ∧ wr = w ∧ trimL r.data.toList = T) (fun v _ => sizeV v)
  case atStart => exact ⟨x, rfl, rfl, HT.out⟩
  case round =>
    obtain ⟨r, rfl, rfl, ht⟩ := hrel
    have H2 : Hid (trimL r.data.toList = T) := ht
    clear ht
    by_cases hp : 0 < r.size
    · have hpi : (0 : Int) < r.size := by omega
      have hpi1 : (1 : Int) ≤ r.size := by omega
      have he : r.toList.isEmpty = false := notEmpty r (by omega)
      have hes : ¬ r = ByteArray.empty := by intro e; rw [e] at hp; exact absurd hp (by decide)
      by_cases h0 : (r[0]).toNat = 0
      · have h0i : ((r[0]).toNat : Int) = 0 := by omega
        have H3 : Hid (trimL (r.extract 1 r.size).data.toList = T) := (trim_zero hp h0).trans H2.out
        go_wp2_with fail
        go_roundw
        case rel => exact ⟨_, rfl, trivial, H3.out⟩
        case measure => show (r.extract 1 r.size).size < r.size; rw [ByteArray.size_extract]; omega
      · have h0i : ¬ ((r[0]).toNat : Int) = 0 := by omega
        have hb0 : (((r[0]).toNat : Int) == 0) = false := beq_eq_false_iff_ne.2 h0i
        have H3 : Hid (trimL r.data.toList = r.data.toList) := trim_stop (fun _ => h0)
        go_wp2_with fail
        go_ret
        refine ⟨?_, rfl⟩
        rw [← H2.out, H3.out, mk_lst]
        rfl
    · have hpi : ¬ (0 : Int) < r.size := by omega
      have H3 : Hid (trimL r.data.toList = r.data.toList) := trim_stop (fun h => absurd h hp)
      go_wp2_with fail
      go_ret
      refine ⟨?_, rfl⟩
      rw [← H2.out, H3.out, mk_lst]
      rfl

theorem eq_of_list {x y : ByteArray} (h : x.data.toList = y.data.toList) : x = y := by
  obtain ⟨⟨l⟩⟩ := x
  obtain ⟨⟨m⟩⟩ := y
  simp only at h
  rw [h]
theorem qright_any (x : ByteArray) (w : World) :
    Calls Try.prog 50 #[.string x] w fun e w' => e = .returned (.bool (rightN x.data.toList)) ∧ w' = w := by
  obtain ⟨R, hR⟩ : ∃ R, rightN x.data.toList = R := ⟨_, rfl⟩
  rw [hR]
  have HR : Hid (rightN x.data.toList = R) := hR
  clear hR
  by_cases h32 : x.size ≤ 32
  · have h32i : (x.size : Int) ≤ 32 := by omega
    obtain ⟨T, hT⟩ : ∃ T : ByteArray, ⟨(trimL x.data.toList).toArray⟩ = T := ⟨_, rfl⟩
    have HT : Hid ((⟨(trimL x.data.toList).toArray⟩ : ByteArray) = T) := hT
    obtain ⟨d, hd⟩ : ∃ d, (T.toList == x.toList) = d := ⟨_, rfl⟩
    have HD : Hid (R = d) := by
      unfold Hid
      rw [← HR.out, ← hd]
      unfold rightN
      rw [decide_eq_true (by rw [sizeB]; exact h32), Bool.true_and, lb, lb, ← hT, Bool.eq_iff_iff]
      simp
    clear hT
    go_enter Try.func50, Try.ntmps50
    go_wp2_with fail
    refine (qtrim_any x _).mono ?_
    rintro e w1 ⟨rfl, rfl⟩
    rw [HT.out]
    go_wp2_with fail
    go_ret
    exact ⟨by rw [HD.out]; rfl, rfl⟩
  · have h32i : ¬ (x.size : Int) ≤ 32 := by omega
    have HD : Hid (R = false) := by unfold Hid; rw [← HR.out]; exact right_long (by rw [sizeB]; omega)
    go_enter Try.func50, Try.ntmps50
    go_wp2_with fail
    go_ret
    exact ⟨by rw [HD.out]; rfl, rfl⟩

end Go.Proofs.Ytadpopjhhanapaa
/-
  The document's may: may a write be?
-/
namespace Go.Proofs.Ytadpopjhhanapaa
open Go Go.RowKit

section
variable {ops : Array Oper} {rest : List Oper} {op : Oper} {a : Act} {C : World → Prop} {Q : Act → Prop}
theorem wpQ_leqJ (x y : Operand) (ho : op.op = .binOp .leq 9 x y 9) {u v : ByteArray} (hx : a.eval x = .string u) (hy : a.eval y = .string v) {r : Bool} (hr : (!kl v u) = r) (hw : Region.wanted op (yielded ops a.tmps) = true)
    (h : wpQuiet Try.prog ops C Q rest (a.put op.dst (.bool r))) : wpQuiet Try.prog ops C Q (op :: rest) a :=
  wpQ_val hw _ (fun w => by rw [run_leqJ _ x y a.eval hx hy ho w, hr]) h
end
def lastK (L : List Sl) : Nat → ByteArray
  | 0 => ⟨#[]⟩
  | k + 1 => match L[k]? with
    | some s => s.k
    | none => ⟨#[]⟩
theorem kl_nil32 {x : ByteArray} (h : x.size = 32) : kl ⟨#[]⟩ x = true := by
  have hx : x.toList ≠ [] := fun e => by
    have h1 : x.toList.length = 32 := by rw [lb, sizeB]; exact h
    rw [e] at h1; cases h1
  unfold kl
  cases hl : x.toList with
  | nil => exact absurd hl hx
  | cons a l => rw [lb]; rfl
theorem rise_step {L : List Sl} {k : Nat} {s : Sl} (hs : L[k]? = some s) : riseL Sl.k okS 32 (lastK L k) (L.drop k) = (okS s && (decide (s.k.size = 32) && kl (lastK L k) s.k) && riseL Sl.k okS 32 (lastK L (k + 1)) (L.drop (k + 1))) := by
  have hlt : k < L.length := (List.getElem?_eq_some_iff.1 hs).1
  have e : L.drop k = s :: L.drop (k + 1) := by
    rw [List.drop_eq_getElem_cons hlt]
    rw [List.getElem?_eq_getElem hlt] at hs
    injection hs with hs
    rw [hs]
  have e2 : lastK L (k + 1) = s.k := by show (match L[k]? with | some s => s.k | none => ⟨#[]⟩) = _; rw [hs]
  rw [e, e2]
  rfl
set_option maxRecDepth 8000 in
set_option maxHeartbeats 16000000 in
theorem qmay_any {w : World} {x : Wr} (hx : WrOk w x) : Calls Try.prog 29 #[wra x] w fun e w' => e = .returned (.bool (decide (x.a.size = 20) && okW x)) ∧ Below w.heap.size w w' := by
  obtain ⟨V1, gx, hV1, hgx, hB1, hxw⟩ := box_write w x
  have HB : Hid (Below w.heap.size w V1) := hB1
  have HG : Hid (w.heap.size = gx) := hgx
  have hsx := hx.1.below hB1
  have hrb := fun W => qright_any x.b W
  clear hx hB1
  have HOK : Hid (okW x = (!(x.g && !bareW x) && decide (x.L.length ≤ 64) && okA x.b.data.toList x.c.data.toList 0 && riseL Sl.k okS 32 ⟨#[]⟩ x.L)) := rfl
  have HOA : Hid (okA x.b.data.toList x.c.data.toList 0 = (rightN x.b.data.toList && (decide (x.c.size = 0) || decide (x.c.size = 32)))) := by
    show _ = _
    unfold okA
    simp
  obtain ⟨R, hR⟩ : ∃ R, rightN x.b.data.toList = R := ⟨_, rfl⟩
  rw [hR] at hrb HOA
  have HRB : Hid (∀ W, Calls Try.prog 50 #[.string x.b] W fun e w' => e = .returned (.bool R) ∧ w' = W) := hrb
  have HBW : Hid (bareW x = (!x.r && decide (x.n = 0) && decide (x.b = ⟨#[]⟩) && decide (x.c = ⟨#[]⟩) && decide (x.L.length = 0))) := rfl
  obtain ⟨M, hM⟩ : ∃ M, x.L.length = M := ⟨_, rfl⟩
  have HM : Hid (x.L.length = M) := hM
  rw [hM] at HOK HBW
  obtain ⟨sp, sc, hsh⟩ := hsx.shape
  rw [hM] at hsh
  obtain ⟨x0, x1, x2, x3, x4, x5, x6⟩ := hxw
  obtain ⟨E, hE⟩ : ∃ E, okW x = E := ⟨_, rfl⟩
  rw [hE]
  rw [hE] at HOK
  generalize bareW x = BW at HOK HBW
  obtain ⟨xa, xg, xr, xn, xb, xc, xs, xL⟩ := x
  dsimp only at *
  subst hsh
  unfold wra wrC
  dsimp only
  clear hrb hM hR hE
  have HSX : Hid (SlotsAt V1 (.slice sp M sc) xL) := hsx
  clear hsx
  by_cases ha : xa.size = 20
  · have hai : (xa.size : Int) = 20 := by omega
    cases R with
    | false =>
      have HF : Hid ((decide (xa.size = 20) && E) = false) := by show _ = _; rw [HOK.out, HOA.out]; simp
      go_enter Try.func29, Try.ntmps29
      go_wp2_with (first | (go_at_call 50; refine (HRB.out _).mono ?_; rintro e w1 ⟨rfl, hw⟩; obtain rfl := hw.symm) | fail)
      go_ret
      exact ⟨by rw [HF.out]; rfl, by first | exact HB.out | exact below_new1 _ _ | (rw [← HG.out]; exact HB.out)⟩
    | true =>
      by_cases hc : xc.size = 0 ∨ xc.size = 32
      · by_cases hm : M ≤ 64
        · have hmi : ¬ (64 : Int) < M := by omega
          have HX6 : Hid (V1.cell? ⟨gx, 6, none⟩ = some (.slice sp M sc)) := by show _ = _; simpa using x6
          have HCC : Hid ((decide (xc.size = 0) || decide (xc.size = 32)) = true) := by
            show _ = _
            rcases hc with h | h
            · rw [decide_eq_true h]; rfl
            · rw [decide_eq_true h, Bool.or_true]
          rcases (by rcases hc with h | h <;> omega : (xc.size : Int) = 0 ∨ (xc.size : Int) = 32) with hci | hci
          · cases xg with
            | false =>
              have HL : Hid ((decide (xa.size = 20) && E) = riseL Sl.k okS 32 ⟨#[]⟩ xL) := by show _ = _; rw [HOK.out, HOA.out, HCC.out, decide_eq_true ha, decide_eq_true hm]; simp
              go_enter Try.func29, Try.ntmps29
              go_wp2_with (first | (go_at_call 50; refine (HRB.out _).mono ?_; rintro e w1 ⟨rfl, hw⟩; obtain rfl := hw.symm) | fail)
              go_loopw [4] (fun y wr => ∃ k : Nat, y = .int .i64 (k : Nat) ∧ k ≤ M ∧ Hid (riseL Sl.k okS 32 ⟨#[]⟩ xL = riseL Sl.k okS 32 (lastK xL k) (xL.drop k)) ∧ Below V1.heap.size V1 wr) (fun y _ => M - (intOf y).toNat)
              case atStart => exact ⟨0, rfl, Nat.zero_le _, rfl, Below.refl _ _⟩
              case round =>
                obtain ⟨k, rfl, hk, HI, hBj⟩ := hrel
                have e6 : wr.cell? ⟨gx, 6, none⟩ = some (.slice sp M sc) := keep_cell hBj HX6.out
                by_cases hkM : k < M
                · have hki : (k : Int) < M := by omega
                  obtain ⟨s, hs⟩ : ∃ s, xL[k]? = some s := ⟨_, List.getElem?_eq_getElem (by have := HM.out; omega)⟩
                  have HST : Hid (riseL Sl.k okS 32 (lastK xL k) (xL.drop k) = (okS s && (decide (s.k.size = 32) && kl (lastK xL k) s.k) && riseL Sl.k okS 32 (lastK xL (k + 1)) (xL.drop (k + 1)))) := rise_step hs
                  obtain ⟨bs, os, rfl, -, f0, f1⟩ := (HSX.out.below hBj).at hs
                  have HRS0 := fun W => qright_any s.v W
                  obtain ⟨ok, hok⟩ : ∃ ok, okS s = ok := ⟨_, rfl⟩
                  have hok' : rightN s.v.data.toList = ok := hok
                  rw [hok'] at HRS0
                  rw [hok] at HST
                  have HRS : Hid (∀ W, Calls Try.prog 50 #[.string s.v] W fun e w' => e = .returned (.bool ok) ∧ w' = W) := HRS0
                  have HSS : Hid (xL[k]? = some s) := hs
                  clear HRS0 hok hok'
                  obtain ⟨sk, sv⟩ := s
                  dsimp only at *
                  cases ok with
                  | false =>
                    have HF : Hid ((decide (xa.size = 20) && E) = false) := by show _ = _; rw [HL.out, HI.out, HST.out]; simp
                    go_wp2_with (go_at_call 50; refine (HRS.out _).mono ?_; rintro e w2 ⟨rfl, hw⟩; obtain rfl := hw.symm)
                    refine wp_region_class (fun W => Below wr.heap.size wr W) mixedP (by kernel_rfl) (Below.refl _ _).drew ?_
                    go_big_quiet_step (exact fun _ => rfl)
                    go_big_quiet_step (exact fun _ => rfl)
                    go_big_quiet_step (exact fun _ => rfl)
                    go_big_quiet_step (fail)
                    go_big_quiet_step (fail)
                    go_big_quiet_step (fail)
                    go_big_quiet_step (fail)
                    go_big_quiet_step (fail)
                    go_big_quiet_step (fail)
                    go_big_quiet_step (fail)
                    go_big_quiet_step (fail)
                    go_big_quiet_step (exact fun _ => rfl)
                    go_big_quiet_step (exact fun _ => rfl)
                    go_big_quiet_step (fail)
                    go_big_quiet_step (fail)
                    go_big_quiet_step (fail)
                    go_big_quiet_step (fail)
                    go_big_quiet_step (fail)
                    go_big_quiet_step (fail)
                    go_big_quiet_step (fail)
                    go_big_quiet_step (fail)
                    go_big_quiet_step (fail)
                    go_big_quiet_step (fail)
                    go_big_quiet_step (fail)
                    go_big_quiet_step (fail)
                    go_big_quiet_step (fail)
                    go_big_quiet_step (fail)
                    go_big_quiet_step (fail)
                    go_big_quiet_step (fail)
                    go_big_quiet_step (fail)
                    go_big_quiet_step (fail)
                    go_big_quiet_step (exact fun _ => rfl)
                    refine wpQuiet_nil ?_
                    intro w7 hB7
                    simp only [Exit.then]
                    go_at_K
                    have H7 : Hid (Below V1.heap.size V1 w7) := below_new hBj hB7
                    clear hBj hB7 e6
                    go_wp2_with fail
                    go_ret
                    exact ⟨by first | (rw [HF.out]; rfl) | (have h := HF.out; simp [ha] at h; simp [h]; done) | (have h := HF.out; simp [ha] at h; subst h; rfl), by first | exact below_new HB.out H7.out | (rw [← HG.out]; exact below_new HB.out H7.out)⟩
                  | true =>
                    by_cases h32 : sk.size = 32
                    · have h32i : (sk.size : Int) = 32 := by omega
                      rcases (Nat.eq_zero_or_pos k).imp id (fun h => (⟨k - 1, by omega⟩ : ∃ i, k = i + 1)) with rfl | ⟨i, rfl⟩
                      · have HNX : Hid (riseL Sl.k okS 32 ⟨#[]⟩ xL = riseL Sl.k okS 32 (lastK xL (0 + 1)) (xL.drop (0 + 1))) := by
                          show _ = _
                          rw [HI.out, HST.out, decide_eq_true h32, show kl (lastK xL 0) sk = true from kl_nil32 h32]
                          simp
                        go_wp2_with (go_at_call 50; refine (HRS.out _).mono ?_; rintro e w2 ⟨rfl, hw⟩; obtain rfl := hw.symm)
                        refine wp_region_class (fun W => Below wr.heap.size wr W) mixedP (by kernel_rfl) (Below.refl _ _).drew ?_
                        go_big_quiet_step (exact fun _ => rfl)
                        go_big_quiet_step (exact fun _ => rfl)
                        go_big_quiet_step (exact fun _ => rfl)
                        go_big_quiet_step (exact fun _ => rfl)
                        refine wpQ_ld rfl _ _ rfl rfl (fun W hW => ldSl (keep_cell hW e6)) ?_
                        go_frame
                        go_big_quiet_step (exact fun _ => rfl)
                        go_big_quiet_step (exact fun _ => rfl)
                        go_big_quiet_step (exact fun _ => rfl)
                        refine wpQ_ld rfl _ _ rfl rfl (fun W hW => ldTxt (keep_cell hW f0)) ?_
                        go_frame
                        go_big_quiet_step (exact fun _ => rfl)
                        refine wpQ_val rfl (.bool false) (fun _ => by go_simp; first | done | omega | exact HWI.out | (rw [IntKind.wrap_i64]; omega)) ?_
                        go_frame
                        go_big_quiet_step (exact fun _ => rfl)
                        go_big_quiet_step (exact fun _ => rfl)
                        go_big_quiet_step (exact fun _ => rfl)
                        refine wpQ_val rfl (.bool false) (fun _ => by go_simp; first | done | omega | exact HWI.out | (rw [IntKind.wrap_i64]; omega)) ?_
                        go_frame
                        go_big_quiet_step (exact fun _ => rfl)
                        go_big_quiet_step (fail)
                        go_big_quiet_step (fail)
                        go_big_quiet_step (fail)
                        go_big_quiet_step (fail)
                        go_big_quiet_step (fail)
                        go_big_quiet_step (fail)
                        go_big_quiet_step (fail)
                        go_big_quiet_step (fail)
                        go_big_quiet_step (fail)
                        go_big_quiet_step (fail)
                        go_big_quiet_step (fail)
                        go_big_quiet_step (fail)
                        go_big_quiet_step (fail)
                        go_big_quiet_step (fail)
                        go_big_quiet_step (exact fun _ => rfl)
                        go_big_quiet_step (exact fun _ => rfl)
                        refine wpQuiet_nil ?_
                        intro w7 hB7
                        simp only [Exit.then]
                        go_at_K
                        have H7 : Hid (Below V1.heap.size V1 w7) := below_new hBj hB7
                        clear hBj hB7 e6
                        go_wp2_with fail
                        exact ⟨⟨0 + 1, by go_num, by omega, HNX, H7.out⟩, by simp [intOf]; omega⟩
                      · obtain ⟨t, ht⟩ : ∃ t, xL[i]? = some t := ⟨_, List.getElem?_eq_getElem (by have := HM.out; omega)⟩
                        have hlk : lastK xL (i + 1) = t.k := by show (match xL[i]? with | some s => s.k | none => ⟨#[]⟩) = _; rw [ht]
                        obtain ⟨bt, ot, hbo, -, p0, p1⟩ := (HSX.out.below hBj).at ht
                        injection hbo with hbo
                        injection hbo with hb1 hb2
                        subst hb1 hb2
                        have HLK : Hid (lastK xL (i + 1) = t.k) := hlk
                        have HWI : Hid (IntKind.i64.wrap (i : Int) = (i : Int)) := by show _ = _; rw [IntKind.wrap_i64]; omega
                        rw [hlk] at HST
                        obtain ⟨r, hr⟩ : ∃ r, kl t.k sk = r := ⟨_, rfl⟩
                        rw [hr] at HST
                        have HKL : Hid ((!kl t.k sk) = !r) := by show _ = _; rw [hr]
                        clear hr hlk ht
                        obtain ⟨tk, tv⟩ := t
                        dsimp only at *
                        cases r with
                        | false =>
                          have HF : Hid ((decide (xa.size = 20) && E) = false) := by show _ = _; rw [HL.out, HI.out, HLK.out, HST.out]; simp
                          go_wp2_with (go_at_call 50; refine (HRS.out _).mono ?_; rintro e w2 ⟨rfl, hw⟩; obtain rfl := hw.symm)
                          refine wp_region_class (fun W => Below wr.heap.size wr W) mixedP (by kernel_rfl) (Below.refl _ _).drew ?_
                          go_big_quiet_step (exact fun _ => rfl)
                          go_big_quiet_step (exact fun _ => rfl)
                          go_big_quiet_step (exact fun _ => rfl)
                          go_big_quiet_step (exact fun _ => rfl)
                          refine wpQ_ld rfl _ _ rfl rfl (fun W hW => ldSl (keep_cell hW e6)) ?_
                          go_frame
                          go_big_quiet_step (exact fun _ => rfl)
                          go_big_quiet_step (exact fun _ => rfl)
                          go_big_quiet_step (exact fun _ => rfl)
                          refine wpQ_ld rfl _ _ rfl rfl (fun W hW => ldTxt (keep_cell hW f0)) ?_
                          go_frame
                          go_big_quiet_step (exact fun _ => rfl)
                          refine wpQ_val rfl (.bool false) (fun _ => by go_simp; first | done | omega | exact HWI.out | (rw [IntKind.wrap_i64]; omega)) ?_
                          go_frame
                          go_big_quiet_step (exact fun _ => rfl)
                          go_big_quiet_step (exact fun _ => rfl)
                          go_big_quiet_step (exact fun _ => rfl)
                          refine wpQ_val rfl (.bool true) (fun _ => by go_simp; first | done | omega | exact HWI.out | (rw [IntKind.wrap_i64]; omega)) ?_
                          go_frame
                          go_big_quiet_step (exact fun _ => rfl)
                          go_big_quiet_step (exact fun _ => rfl)
                          refine wpQ_ld rfl _ _ rfl rfl (fun W hW => ldSl (keep_cell hW e6)) ?_
                          go_frame
                          go_big_quiet_step (exact fun _ => rfl)
                          go_big_quiet_step (exact fun _ => rfl)
                          go_big_quiet_step (exact fun _ => rfl)
                          refine wpQ_ld rfl _ _ rfl rfl (fun W hW => ldTxt (keep_cell hW f0)) ?_
                          go_frame
                          go_big_quiet_step (exact fun _ => rfl)
                          refine wpQ_ld rfl _ _ rfl rfl (fun W hW => ldSl (keep_cell hW e6)) ?_
                          go_frame
                          go_big_quiet_step (exact fun _ => rfl)
                          refine wpQ_val rfl (.int .i64 (i : Nat)) (fun _ => by go_simp; first | done | omega | exact HWI.out | (rw [IntKind.wrap_i64]; omega)) ?_
                          go_frame
                          go_big_quiet_step (exact fun _ => rfl)
                          go_big_quiet_step (exact fun _ => rfl)
                          refine wpQ_ld rfl _ _ rfl rfl (fun W hW => ldTxt (keep_cell hW p0)) ?_
                          go_frame
                          refine wpQ_leqJ _ _ rfl rfl rfl HKL.out rfl ?_
                          go_frame
                          go_big_quiet_step (exact fun _ => rfl)
                          go_big_quiet_step (exact fun _ => rfl)
                          refine wpQuiet_nil ?_
                          intro w7 hB7
                          simp only [Exit.then]
                          go_at_K
                          have H7 : Hid (Below V1.heap.size V1 w7) := below_new hBj hB7
                          clear hBj hB7 e6
                          go_wp2_with fail
                          go_ret
                          exact ⟨by first | (rw [HF.out]; rfl) | (have h := HF.out; simp [ha] at h; simp [h]; done) | (have h := HF.out; simp [ha] at h; subst h; rfl), by first | exact below_new HB.out H7.out | (rw [← HG.out]; exact below_new HB.out H7.out)⟩
                        | true =>
                          have HNX : Hid (riseL Sl.k okS 32 ⟨#[]⟩ xL = riseL Sl.k okS 32 (lastK xL (i + 1 + 1)) (xL.drop (i + 1 + 1))) := by
                            show _ = _
                            rw [HI.out, HLK.out, HST.out, decide_eq_true h32]
                            simp
                          go_wp2_with (go_at_call 50; refine (HRS.out _).mono ?_; rintro e w2 ⟨rfl, hw⟩; obtain rfl := hw.symm)
                          refine wp_region_class (fun W => Below wr.heap.size wr W) mixedP (by kernel_rfl) (Below.refl _ _).drew ?_
                          go_big_quiet_step (exact fun _ => rfl)
                          go_big_quiet_step (exact fun _ => rfl)
                          go_big_quiet_step (exact fun _ => rfl)
                          go_big_quiet_step (exact fun _ => rfl)
                          refine wpQ_ld rfl _ _ rfl rfl (fun W hW => ldSl (keep_cell hW e6)) ?_
                          go_frame
                          go_big_quiet_step (exact fun _ => rfl)
                          go_big_quiet_step (exact fun _ => rfl)
                          go_big_quiet_step (exact fun _ => rfl)
                          refine wpQ_ld rfl _ _ rfl rfl (fun W hW => ldTxt (keep_cell hW f0)) ?_
                          go_frame
                          go_big_quiet_step (exact fun _ => rfl)
                          refine wpQ_val rfl (.bool false) (fun _ => by go_simp; first | done | omega | exact HWI.out | (rw [IntKind.wrap_i64]; omega)) ?_
                          go_frame
                          go_big_quiet_step (exact fun _ => rfl)
                          go_big_quiet_step (exact fun _ => rfl)
                          go_big_quiet_step (exact fun _ => rfl)
                          refine wpQ_val rfl (.bool true) (fun _ => by go_simp; first | done | omega | exact HWI.out | (rw [IntKind.wrap_i64]; omega)) ?_
                          go_frame
                          go_big_quiet_step (exact fun _ => rfl)
                          go_big_quiet_step (exact fun _ => rfl)
                          refine wpQ_ld rfl _ _ rfl rfl (fun W hW => ldSl (keep_cell hW e6)) ?_
                          go_frame
                          go_big_quiet_step (exact fun _ => rfl)
                          go_big_quiet_step (exact fun _ => rfl)
                          go_big_quiet_step (exact fun _ => rfl)
                          refine wpQ_ld rfl _ _ rfl rfl (fun W hW => ldTxt (keep_cell hW f0)) ?_
                          go_frame
                          go_big_quiet_step (exact fun _ => rfl)
                          refine wpQ_ld rfl _ _ rfl rfl (fun W hW => ldSl (keep_cell hW e6)) ?_
                          go_frame
                          go_big_quiet_step (exact fun _ => rfl)
                          refine wpQ_val rfl (.int .i64 (i : Nat)) (fun _ => by go_simp; first | done | omega | exact HWI.out | (rw [IntKind.wrap_i64]; omega)) ?_
                          go_frame
                          go_big_quiet_step (exact fun _ => rfl)
                          go_big_quiet_step (exact fun _ => rfl)
                          refine wpQ_ld rfl _ _ rfl rfl (fun W hW => ldTxt (keep_cell hW p0)) ?_
                          go_frame
                          refine wpQ_leqJ _ _ rfl rfl rfl HKL.out rfl ?_
                          go_frame
                          go_big_quiet_step (exact fun _ => rfl)
                          go_big_quiet_step (exact fun _ => rfl)
                          refine wpQuiet_nil ?_
                          intro w7 hB7
                          simp only [Exit.then]
                          go_at_K
                          have H7 : Hid (Below V1.heap.size V1 w7) := below_new hBj hB7
                          clear hBj hB7 e6
                          go_wp2_with fail
                          exact ⟨⟨(i + 1) + 1, by go_num, by omega, HNX, H7.out⟩, by simp [intOf]; omega⟩
                    · have h32i : ¬ (sk.size : Int) = 32 := by omega
                      have HF : Hid ((decide (xa.size = 20) && E) = false) := by show _ = _; rw [HL.out, HI.out, HST.out, decide_eq_false h32]; simp
                      go_wp2_with (go_at_call 50; refine (HRS.out _).mono ?_; rintro e w2 ⟨rfl, hw⟩; obtain rfl := hw.symm)
                      refine wp_region_class (fun W => Below wr.heap.size wr W) mixedP (by kernel_rfl) (Below.refl _ _).drew ?_
                      go_big_quiet_step (exact fun _ => rfl)
                      go_big_quiet_step (exact fun _ => rfl)
                      go_big_quiet_step (exact fun _ => rfl)
                      go_big_quiet_step (exact fun _ => rfl)
                      refine wpQ_ld rfl _ _ rfl rfl (fun W hW => ldSl (keep_cell hW e6)) ?_
                      go_frame
                      go_big_quiet_step (exact fun _ => rfl)
                      go_big_quiet_step (exact fun _ => rfl)
                      go_big_quiet_step (exact fun _ => rfl)
                      refine wpQ_ld rfl _ _ rfl rfl (fun W hW => ldTxt (keep_cell hW f0)) ?_
                      go_frame
                      go_big_quiet_step (exact fun _ => rfl)
                      refine wpQ_val rfl (.bool true) (fun _ => by go_simp; first | done | omega | exact HWI.out | (rw [IntKind.wrap_i64]; omega)) ?_
                      go_frame
                      go_big_quiet_step (exact fun _ => rfl)
                      go_big_quiet_step (exact fun _ => rfl)
                      go_big_quiet_step (fail)
                      go_big_quiet_step (fail)
                      go_big_quiet_step (fail)
                      go_big_quiet_step (fail)
                      go_big_quiet_step (fail)
                      go_big_quiet_step (fail)
                      go_big_quiet_step (fail)
                      go_big_quiet_step (fail)
                      go_big_quiet_step (fail)
                      go_big_quiet_step (fail)
                      go_big_quiet_step (fail)
                      go_big_quiet_step (fail)
                      go_big_quiet_step (fail)
                      go_big_quiet_step (fail)
                      go_big_quiet_step (fail)
                      go_big_quiet_step (fail)
                      go_big_quiet_step (fail)
                      go_big_quiet_step (fail)
                      go_big_quiet_step (exact fun _ => rfl)
                      refine wpQuiet_nil ?_
                      intro w7 hB7
                      simp only [Exit.then]
                      go_at_K
                      have H7 : Hid (Below V1.heap.size V1 w7) := below_new hBj hB7
                      clear hBj hB7 e6
                      go_wp2_with fail
                      go_ret
                      exact ⟨by first | (rw [HF.out]; rfl) | (have h := HF.out; simp [ha] at h; simp [h]; done) | (have h := HF.out; simp [ha] at h; subst h; rfl), by first | exact below_new HB.out H7.out | (rw [← HG.out]; exact below_new HB.out H7.out)⟩
                · have hki : ¬ (k : Int) < M := by omega
                  have HF : Hid ((decide (xa.size = 20) && E) = true) := by
                    show _ = _
                    rw [HL.out, HI.out, List.drop_of_length_le (by have := HM.out; omega)]
                    rfl
                  have H7 : Hid (Below V1.heap.size V1 wr) := hBj
                  clear hBj
                  go_wp2_with fail
                  go_ret
                  exact ⟨by first | (rw [HF.out]; rfl) | (have h := HF.out; simp [ha] at h; simp [h]; done) | (have h := HF.out; simp [ha] at h; subst h; rfl), by first | exact below_new HB.out H7.out | (rw [← HG.out]; exact below_new HB.out H7.out)⟩
            | true =>
              cases xr with
              | true =>
                have HF : Hid ((decide (xa.size = 20) && E) = false) := by show _ = _; rw [HOK.out, HBW.out]; simp
                go_enter Try.func29, Try.ntmps29
                go_wp2_with (first | (go_at_call 50; refine (HRB.out _).mono ?_; rintro e w1 ⟨rfl, hw⟩; obtain rfl := hw.symm) | fail)
                go_ret
                exact ⟨by rw [HF.out]; rfl, by first | exact HB.out | exact below_new1 _ _ | (rw [← HG.out]; exact HB.out)⟩
              | false =>
                by_cases hn0 : xn = 0
                · subst hn0
                  by_cases hb0 : xb = ⟨#[]⟩
                  · subst hb0
                    obtain rfl : xc = ⟨#[]⟩ := by
                      apply Classical.byContradiction
                      intro e
                      exact nilB xc e (by omega)
                    by_cases hM0 : M = 0
                    · subst hM0
                      have hx0 : xL = [] := List.eq_nil_of_length_eq_zero HM.out
                      have HF : Hid ((decide (xa.size = 20) && E) = true) := by
                        show _ = _
                        rw [HOK.out, HOA.out, HBW.out, HCC.out, decide_eq_true ha, hx0]
                        rfl
                      clear HX6 hx0
                      go_enter Try.func29, Try.ntmps29
                      go_wp2_with (first | (go_at_call 50; refine (HRB.out _).mono ?_; rintro e w1 ⟨rfl, hw⟩; obtain rfl := hw.symm) | fail)
                      go_loopw [4] (fun y wr => y = .int .i64 0 ∧ Below w.heap.size w wr ∧ Hid (wr.cell? ⟨gx, 6, none⟩ = some (.slice sp 0 sc))) (fun _ _ => 0)
                      case atStart =>
                        refine ⟨rfl, by first | exact HB.out | exact below_new1 _ _, ?_⟩
                        show _ = _
                        rw [← HG.out]
                        exact (Holds.new w _ _).cell 6
                      case round =>
                        obtain ⟨rfl, hBj, HC⟩ := hrel
                        have e6 := HC.out
                        go_wp2_with fail
                        go_ret
                        exact ⟨by first | (rw [HF.out]; rfl) | (have h := HF.out; simp [ha] at h; simp [h]; done) | (have h := HF.out; simp [ha] at h; subst h; rfl), by first | exact hBj | (rw [← HG.out]; exact hBj)⟩
                    · have hM0i : (0 : Int) < M := by omega
                      have HF : Hid ((decide (xa.size = 20) && E) = false) := by show _ = _; rw [HOK.out, HBW.out, decide_eq_false hM0]; simp
                      go_enter Try.func29, Try.ntmps29
                      go_wp2_with (first | (go_at_call 50; refine (HRB.out _).mono ?_; rintro e w1 ⟨rfl, hw⟩; obtain rfl := hw.symm) | fail)
                      go_ret
                      exact ⟨by rw [HF.out]; rfl, by first | exact HB.out | exact below_new1 _ _ | (rw [← HG.out]; exact HB.out)⟩
                  · have he := notEmpty xb (nilB xb hb0)
                    have HF : Hid ((decide (xa.size = 20) && E) = false) := by show _ = _; rw [HOK.out, HBW.out, decide_eq_false hb0]; simp
                    go_enter Try.func29, Try.ntmps29
                    go_wp2_with (first | (go_at_call 50; refine (HRB.out _).mono ?_; rintro e w1 ⟨rfl, hw⟩; obtain rfl := hw.symm) | fail)
                    go_ret
                    exact ⟨by rw [HF.out]; rfl, by first | exact HB.out | exact below_new1 _ _ | (rw [← HG.out]; exact HB.out)⟩
                · have hn0i : ¬ (xn : Int) = 0 := by omega
                  have HF : Hid ((decide (xa.size = 20) && E) = false) := by show _ = _; rw [HOK.out, HBW.out, decide_eq_false hn0]; simp
                  go_enter Try.func29, Try.ntmps29
                  go_wp2_with (first | (go_at_call 50; refine (HRB.out _).mono ?_; rintro e w1 ⟨rfl, hw⟩; obtain rfl := hw.symm) | fail)
                  go_ret
                  exact ⟨by rw [HF.out]; rfl, by first | exact HB.out | exact below_new1 _ _ | (rw [← HG.out]; exact HB.out)⟩
          · cases xg with
            | false =>
              have HL : Hid ((decide (xa.size = 20) && E) = riseL Sl.k okS 32 ⟨#[]⟩ xL) := by show _ = _; rw [HOK.out, HOA.out, HCC.out, decide_eq_true ha, decide_eq_true hm]; simp
              go_enter Try.func29, Try.ntmps29
              go_wp2_with (first | (go_at_call 50; refine (HRB.out _).mono ?_; rintro e w1 ⟨rfl, hw⟩; obtain rfl := hw.symm) | fail)
              go_loopw [4] (fun y wr => ∃ k : Nat, y = .int .i64 (k : Nat) ∧ k ≤ M ∧ Hid (riseL Sl.k okS 32 ⟨#[]⟩ xL = riseL Sl.k okS 32 (lastK xL k) (xL.drop k)) ∧ Below V1.heap.size V1 wr) (fun y _ => M - (intOf y).toNat)
              case atStart => exact ⟨0, rfl, Nat.zero_le _, rfl, Below.refl _ _⟩
              case round =>
                obtain ⟨k, rfl, hk, HI, hBj⟩ := hrel
                have e6 : wr.cell? ⟨gx, 6, none⟩ = some (.slice sp M sc) := keep_cell hBj HX6.out
                by_cases hkM : k < M
                · have hki : (k : Int) < M := by omega
                  obtain ⟨s, hs⟩ : ∃ s, xL[k]? = some s := ⟨_, List.getElem?_eq_getElem (by have := HM.out; omega)⟩
                  have HST : Hid (riseL Sl.k okS 32 (lastK xL k) (xL.drop k) = (okS s && (decide (s.k.size = 32) && kl (lastK xL k) s.k) && riseL Sl.k okS 32 (lastK xL (k + 1)) (xL.drop (k + 1)))) := rise_step hs
                  obtain ⟨bs, os, rfl, -, f0, f1⟩ := (HSX.out.below hBj).at hs
                  have HRS0 := fun W => qright_any s.v W
                  obtain ⟨ok, hok⟩ : ∃ ok, okS s = ok := ⟨_, rfl⟩
                  have hok' : rightN s.v.data.toList = ok := hok
                  rw [hok'] at HRS0
                  rw [hok] at HST
                  have HRS : Hid (∀ W, Calls Try.prog 50 #[.string s.v] W fun e w' => e = .returned (.bool ok) ∧ w' = W) := HRS0
                  have HSS : Hid (xL[k]? = some s) := hs
                  clear HRS0 hok hok'
                  obtain ⟨sk, sv⟩ := s
                  dsimp only at *
                  cases ok with
                  | false =>
                    have HF : Hid ((decide (xa.size = 20) && E) = false) := by show _ = _; rw [HL.out, HI.out, HST.out]; simp
                    go_wp2_with (go_at_call 50; refine (HRS.out _).mono ?_; rintro e w2 ⟨rfl, hw⟩; obtain rfl := hw.symm)
                    refine wp_region_class (fun W => Below wr.heap.size wr W) mixedP (by kernel_rfl) (Below.refl _ _).drew ?_
                    go_big_quiet_step (exact fun _ => rfl)
                    go_big_quiet_step (exact fun _ => rfl)
                    go_big_quiet_step (exact fun _ => rfl)
                    go_big_quiet_step (fail)
                    go_big_quiet_step (fail)
                    go_big_quiet_step (fail)
                    go_big_quiet_step (fail)
                    go_big_quiet_step (fail)
                    go_big_quiet_step (fail)
                    go_big_quiet_step (fail)
                    go_big_quiet_step (fail)
                    go_big_quiet_step (exact fun _ => rfl)
                    go_big_quiet_step (exact fun _ => rfl)
                    go_big_quiet_step (fail)
                    go_big_quiet_step (fail)
                    go_big_quiet_step (fail)
                    go_big_quiet_step (fail)
                    go_big_quiet_step (fail)
                    go_big_quiet_step (fail)
                    go_big_quiet_step (fail)
                    go_big_quiet_step (fail)
                    go_big_quiet_step (fail)
                    go_big_quiet_step (fail)
                    go_big_quiet_step (fail)
                    go_big_quiet_step (fail)
                    go_big_quiet_step (fail)
                    go_big_quiet_step (fail)
                    go_big_quiet_step (fail)
                    go_big_quiet_step (fail)
                    go_big_quiet_step (fail)
                    go_big_quiet_step (fail)
                    go_big_quiet_step (exact fun _ => rfl)
                    refine wpQuiet_nil ?_
                    intro w7 hB7
                    simp only [Exit.then]
                    go_at_K
                    have H7 : Hid (Below V1.heap.size V1 w7) := below_new hBj hB7
                    clear hBj hB7 e6
                    go_wp2_with fail
                    go_ret
                    exact ⟨by first | (rw [HF.out]; rfl) | (have h := HF.out; simp [ha] at h; simp [h]; done) | (have h := HF.out; simp [ha] at h; subst h; rfl), by first | exact below_new HB.out H7.out | (rw [← HG.out]; exact below_new HB.out H7.out)⟩
                  | true =>
                    by_cases h32 : sk.size = 32
                    · have h32i : (sk.size : Int) = 32 := by omega
                      rcases (Nat.eq_zero_or_pos k).imp id (fun h => (⟨k - 1, by omega⟩ : ∃ i, k = i + 1)) with rfl | ⟨i, rfl⟩
                      · have HNX : Hid (riseL Sl.k okS 32 ⟨#[]⟩ xL = riseL Sl.k okS 32 (lastK xL (0 + 1)) (xL.drop (0 + 1))) := by
                          show _ = _
                          rw [HI.out, HST.out, decide_eq_true h32, show kl (lastK xL 0) sk = true from kl_nil32 h32]
                          simp
                        go_wp2_with (go_at_call 50; refine (HRS.out _).mono ?_; rintro e w2 ⟨rfl, hw⟩; obtain rfl := hw.symm)
                        refine wp_region_class (fun W => Below wr.heap.size wr W) mixedP (by kernel_rfl) (Below.refl _ _).drew ?_
                        go_big_quiet_step (exact fun _ => rfl)
                        go_big_quiet_step (exact fun _ => rfl)
                        go_big_quiet_step (exact fun _ => rfl)
                        go_big_quiet_step (exact fun _ => rfl)
                        refine wpQ_ld rfl _ _ rfl rfl (fun W hW => ldSl (keep_cell hW e6)) ?_
                        go_frame
                        go_big_quiet_step (exact fun _ => rfl)
                        go_big_quiet_step (exact fun _ => rfl)
                        go_big_quiet_step (exact fun _ => rfl)
                        refine wpQ_ld rfl _ _ rfl rfl (fun W hW => ldTxt (keep_cell hW f0)) ?_
                        go_frame
                        go_big_quiet_step (exact fun _ => rfl)
                        refine wpQ_val rfl (.bool false) (fun _ => by go_simp; first | done | omega | exact HWI.out | (rw [IntKind.wrap_i64]; omega)) ?_
                        go_frame
                        go_big_quiet_step (exact fun _ => rfl)
                        go_big_quiet_step (exact fun _ => rfl)
                        go_big_quiet_step (exact fun _ => rfl)
                        refine wpQ_val rfl (.bool false) (fun _ => by go_simp; first | done | omega | exact HWI.out | (rw [IntKind.wrap_i64]; omega)) ?_
                        go_frame
                        go_big_quiet_step (exact fun _ => rfl)
                        go_big_quiet_step (fail)
                        go_big_quiet_step (fail)
                        go_big_quiet_step (fail)
                        go_big_quiet_step (fail)
                        go_big_quiet_step (fail)
                        go_big_quiet_step (fail)
                        go_big_quiet_step (fail)
                        go_big_quiet_step (fail)
                        go_big_quiet_step (fail)
                        go_big_quiet_step (fail)
                        go_big_quiet_step (fail)
                        go_big_quiet_step (fail)
                        go_big_quiet_step (fail)
                        go_big_quiet_step (fail)
                        go_big_quiet_step (exact fun _ => rfl)
                        go_big_quiet_step (exact fun _ => rfl)
                        refine wpQuiet_nil ?_
                        intro w7 hB7
                        simp only [Exit.then]
                        go_at_K
                        have H7 : Hid (Below V1.heap.size V1 w7) := below_new hBj hB7
                        clear hBj hB7 e6
                        go_wp2_with fail
                        exact ⟨⟨0 + 1, by go_num, by omega, HNX, H7.out⟩, by simp [intOf]; omega⟩
                      · obtain ⟨t, ht⟩ : ∃ t, xL[i]? = some t := ⟨_, List.getElem?_eq_getElem (by have := HM.out; omega)⟩
                        have hlk : lastK xL (i + 1) = t.k := by show (match xL[i]? with | some s => s.k | none => ⟨#[]⟩) = _; rw [ht]
                        obtain ⟨bt, ot, hbo, -, p0, p1⟩ := (HSX.out.below hBj).at ht
                        injection hbo with hbo
                        injection hbo with hb1 hb2
                        subst hb1 hb2
                        have HLK : Hid (lastK xL (i + 1) = t.k) := hlk
                        have HWI : Hid (IntKind.i64.wrap (i : Int) = (i : Int)) := by show _ = _; rw [IntKind.wrap_i64]; omega
                        rw [hlk] at HST
                        obtain ⟨r, hr⟩ : ∃ r, kl t.k sk = r := ⟨_, rfl⟩
                        rw [hr] at HST
                        have HKL : Hid ((!kl t.k sk) = !r) := by show _ = _; rw [hr]
                        clear hr hlk ht
                        obtain ⟨tk, tv⟩ := t
                        dsimp only at *
                        cases r with
                        | false =>
                          have HF : Hid ((decide (xa.size = 20) && E) = false) := by show _ = _; rw [HL.out, HI.out, HLK.out, HST.out]; simp
                          go_wp2_with (go_at_call 50; refine (HRS.out _).mono ?_; rintro e w2 ⟨rfl, hw⟩; obtain rfl := hw.symm)
                          refine wp_region_class (fun W => Below wr.heap.size wr W) mixedP (by kernel_rfl) (Below.refl _ _).drew ?_
                          go_big_quiet_step (exact fun _ => rfl)
                          go_big_quiet_step (exact fun _ => rfl)
                          go_big_quiet_step (exact fun _ => rfl)
                          go_big_quiet_step (exact fun _ => rfl)
                          refine wpQ_ld rfl _ _ rfl rfl (fun W hW => ldSl (keep_cell hW e6)) ?_
                          go_frame
                          go_big_quiet_step (exact fun _ => rfl)
                          go_big_quiet_step (exact fun _ => rfl)
                          go_big_quiet_step (exact fun _ => rfl)
                          refine wpQ_ld rfl _ _ rfl rfl (fun W hW => ldTxt (keep_cell hW f0)) ?_
                          go_frame
                          go_big_quiet_step (exact fun _ => rfl)
                          refine wpQ_val rfl (.bool false) (fun _ => by go_simp; first | done | omega | exact HWI.out | (rw [IntKind.wrap_i64]; omega)) ?_
                          go_frame
                          go_big_quiet_step (exact fun _ => rfl)
                          go_big_quiet_step (exact fun _ => rfl)
                          go_big_quiet_step (exact fun _ => rfl)
                          refine wpQ_val rfl (.bool true) (fun _ => by go_simp; first | done | omega | exact HWI.out | (rw [IntKind.wrap_i64]; omega)) ?_
                          go_frame
                          go_big_quiet_step (exact fun _ => rfl)
                          go_big_quiet_step (exact fun _ => rfl)
                          refine wpQ_ld rfl _ _ rfl rfl (fun W hW => ldSl (keep_cell hW e6)) ?_
                          go_frame
                          go_big_quiet_step (exact fun _ => rfl)
                          go_big_quiet_step (exact fun _ => rfl)
                          go_big_quiet_step (exact fun _ => rfl)
                          refine wpQ_ld rfl _ _ rfl rfl (fun W hW => ldTxt (keep_cell hW f0)) ?_
                          go_frame
                          go_big_quiet_step (exact fun _ => rfl)
                          refine wpQ_ld rfl _ _ rfl rfl (fun W hW => ldSl (keep_cell hW e6)) ?_
                          go_frame
                          go_big_quiet_step (exact fun _ => rfl)
                          refine wpQ_val rfl (.int .i64 (i : Nat)) (fun _ => by go_simp; first | done | omega | exact HWI.out | (rw [IntKind.wrap_i64]; omega)) ?_
                          go_frame
                          go_big_quiet_step (exact fun _ => rfl)
                          go_big_quiet_step (exact fun _ => rfl)
                          refine wpQ_ld rfl _ _ rfl rfl (fun W hW => ldTxt (keep_cell hW p0)) ?_
                          go_frame
                          refine wpQ_leqJ _ _ rfl rfl rfl HKL.out rfl ?_
                          go_frame
                          go_big_quiet_step (exact fun _ => rfl)
                          go_big_quiet_step (exact fun _ => rfl)
                          refine wpQuiet_nil ?_
                          intro w7 hB7
                          simp only [Exit.then]
                          go_at_K
                          have H7 : Hid (Below V1.heap.size V1 w7) := below_new hBj hB7
                          clear hBj hB7 e6
                          go_wp2_with fail
                          go_ret
                          exact ⟨by first | (rw [HF.out]; rfl) | (have h := HF.out; simp [ha] at h; simp [h]; done) | (have h := HF.out; simp [ha] at h; subst h; rfl), by first | exact below_new HB.out H7.out | (rw [← HG.out]; exact below_new HB.out H7.out)⟩
                        | true =>
                          have HNX : Hid (riseL Sl.k okS 32 ⟨#[]⟩ xL = riseL Sl.k okS 32 (lastK xL (i + 1 + 1)) (xL.drop (i + 1 + 1))) := by
                            show _ = _
                            rw [HI.out, HLK.out, HST.out, decide_eq_true h32]
                            simp
                          go_wp2_with (go_at_call 50; refine (HRS.out _).mono ?_; rintro e w2 ⟨rfl, hw⟩; obtain rfl := hw.symm)
                          refine wp_region_class (fun W => Below wr.heap.size wr W) mixedP (by kernel_rfl) (Below.refl _ _).drew ?_
                          go_big_quiet_step (exact fun _ => rfl)
                          go_big_quiet_step (exact fun _ => rfl)
                          go_big_quiet_step (exact fun _ => rfl)
                          go_big_quiet_step (exact fun _ => rfl)
                          refine wpQ_ld rfl _ _ rfl rfl (fun W hW => ldSl (keep_cell hW e6)) ?_
                          go_frame
                          go_big_quiet_step (exact fun _ => rfl)
                          go_big_quiet_step (exact fun _ => rfl)
                          go_big_quiet_step (exact fun _ => rfl)
                          refine wpQ_ld rfl _ _ rfl rfl (fun W hW => ldTxt (keep_cell hW f0)) ?_
                          go_frame
                          go_big_quiet_step (exact fun _ => rfl)
                          refine wpQ_val rfl (.bool false) (fun _ => by go_simp; first | done | omega | exact HWI.out | (rw [IntKind.wrap_i64]; omega)) ?_
                          go_frame
                          go_big_quiet_step (exact fun _ => rfl)
                          go_big_quiet_step (exact fun _ => rfl)
                          go_big_quiet_step (exact fun _ => rfl)
                          refine wpQ_val rfl (.bool true) (fun _ => by go_simp; first | done | omega | exact HWI.out | (rw [IntKind.wrap_i64]; omega)) ?_
                          go_frame
                          go_big_quiet_step (exact fun _ => rfl)
                          go_big_quiet_step (exact fun _ => rfl)
                          refine wpQ_ld rfl _ _ rfl rfl (fun W hW => ldSl (keep_cell hW e6)) ?_
                          go_frame
                          go_big_quiet_step (exact fun _ => rfl)
                          go_big_quiet_step (exact fun _ => rfl)
                          go_big_quiet_step (exact fun _ => rfl)
                          refine wpQ_ld rfl _ _ rfl rfl (fun W hW => ldTxt (keep_cell hW f0)) ?_
                          go_frame
                          go_big_quiet_step (exact fun _ => rfl)
                          refine wpQ_ld rfl _ _ rfl rfl (fun W hW => ldSl (keep_cell hW e6)) ?_
                          go_frame
                          go_big_quiet_step (exact fun _ => rfl)
                          refine wpQ_val rfl (.int .i64 (i : Nat)) (fun _ => by go_simp; first | done | omega | exact HWI.out | (rw [IntKind.wrap_i64]; omega)) ?_
                          go_frame
                          go_big_quiet_step (exact fun _ => rfl)
                          go_big_quiet_step (exact fun _ => rfl)
                          refine wpQ_ld rfl _ _ rfl rfl (fun W hW => ldTxt (keep_cell hW p0)) ?_
                          go_frame
                          refine wpQ_leqJ _ _ rfl rfl rfl HKL.out rfl ?_
                          go_frame
                          go_big_quiet_step (exact fun _ => rfl)
                          go_big_quiet_step (exact fun _ => rfl)
                          refine wpQuiet_nil ?_
                          intro w7 hB7
                          simp only [Exit.then]
                          go_at_K
                          have H7 : Hid (Below V1.heap.size V1 w7) := below_new hBj hB7
                          clear hBj hB7 e6
                          go_wp2_with fail
                          exact ⟨⟨(i + 1) + 1, by go_num, by omega, HNX, H7.out⟩, by simp [intOf]; omega⟩
                    · have h32i : ¬ (sk.size : Int) = 32 := by omega
                      have HF : Hid ((decide (xa.size = 20) && E) = false) := by show _ = _; rw [HL.out, HI.out, HST.out, decide_eq_false h32]; simp
                      go_wp2_with (go_at_call 50; refine (HRS.out _).mono ?_; rintro e w2 ⟨rfl, hw⟩; obtain rfl := hw.symm)
                      refine wp_region_class (fun W => Below wr.heap.size wr W) mixedP (by kernel_rfl) (Below.refl _ _).drew ?_
                      go_big_quiet_step (exact fun _ => rfl)
                      go_big_quiet_step (exact fun _ => rfl)
                      go_big_quiet_step (exact fun _ => rfl)
                      go_big_quiet_step (exact fun _ => rfl)
                      refine wpQ_ld rfl _ _ rfl rfl (fun W hW => ldSl (keep_cell hW e6)) ?_
                      go_frame
                      go_big_quiet_step (exact fun _ => rfl)
                      go_big_quiet_step (exact fun _ => rfl)
                      go_big_quiet_step (exact fun _ => rfl)
                      refine wpQ_ld rfl _ _ rfl rfl (fun W hW => ldTxt (keep_cell hW f0)) ?_
                      go_frame
                      go_big_quiet_step (exact fun _ => rfl)
                      refine wpQ_val rfl (.bool true) (fun _ => by go_simp; first | done | omega | exact HWI.out | (rw [IntKind.wrap_i64]; omega)) ?_
                      go_frame
                      go_big_quiet_step (exact fun _ => rfl)
                      go_big_quiet_step (exact fun _ => rfl)
                      go_big_quiet_step (fail)
                      go_big_quiet_step (fail)
                      go_big_quiet_step (fail)
                      go_big_quiet_step (fail)
                      go_big_quiet_step (fail)
                      go_big_quiet_step (fail)
                      go_big_quiet_step (fail)
                      go_big_quiet_step (fail)
                      go_big_quiet_step (fail)
                      go_big_quiet_step (fail)
                      go_big_quiet_step (fail)
                      go_big_quiet_step (fail)
                      go_big_quiet_step (fail)
                      go_big_quiet_step (fail)
                      go_big_quiet_step (fail)
                      go_big_quiet_step (fail)
                      go_big_quiet_step (fail)
                      go_big_quiet_step (fail)
                      go_big_quiet_step (exact fun _ => rfl)
                      refine wpQuiet_nil ?_
                      intro w7 hB7
                      simp only [Exit.then]
                      go_at_K
                      have H7 : Hid (Below V1.heap.size V1 w7) := below_new hBj hB7
                      clear hBj hB7 e6
                      go_wp2_with fail
                      go_ret
                      exact ⟨by first | (rw [HF.out]; rfl) | (have h := HF.out; simp [ha] at h; simp [h]; done) | (have h := HF.out; simp [ha] at h; subst h; rfl), by first | exact below_new HB.out H7.out | (rw [← HG.out]; exact below_new HB.out H7.out)⟩
                · have hki : ¬ (k : Int) < M := by omega
                  have HF : Hid ((decide (xa.size = 20) && E) = true) := by
                    show _ = _
                    rw [HL.out, HI.out, List.drop_of_length_le (by have := HM.out; omega)]
                    rfl
                  have H7 : Hid (Below V1.heap.size V1 wr) := hBj
                  clear hBj
                  go_wp2_with fail
                  go_ret
                  exact ⟨by first | (rw [HF.out]; rfl) | (have h := HF.out; simp [ha] at h; simp [h]; done) | (have h := HF.out; simp [ha] at h; subst h; rfl), by first | exact below_new HB.out H7.out | (rw [← HG.out]; exact below_new HB.out H7.out)⟩
            | true =>
              cases xr with
              | true =>
                have HF : Hid ((decide (xa.size = 20) && E) = false) := by show _ = _; rw [HOK.out, HBW.out]; simp
                go_enter Try.func29, Try.ntmps29
                go_wp2_with (first | (go_at_call 50; refine (HRB.out _).mono ?_; rintro e w1 ⟨rfl, hw⟩; obtain rfl := hw.symm) | fail)
                go_ret
                exact ⟨by rw [HF.out]; rfl, by first | exact HB.out | exact below_new1 _ _ | (rw [← HG.out]; exact HB.out)⟩
              | false =>
                by_cases hn0 : xn = 0
                · subst hn0
                  by_cases hb0 : xb = ⟨#[]⟩
                  · subst hb0
                    have hcn : ¬ xc = ⟨#[]⟩ := by intro e; rw [e] at hci; exact absurd hci (by decide)
                    have he := notEmpty xc (nilB xc hcn)
                    have HF : Hid ((decide (xa.size = 20) && E) = false) := by show _ = _; rw [HOK.out, HBW.out, decide_eq_false hcn]; simp
                    go_enter Try.func29, Try.ntmps29
                    go_wp2_with (first | (go_at_call 50; refine (HRB.out _).mono ?_; rintro e w1 ⟨rfl, hw⟩; obtain rfl := hw.symm) | fail)
                    go_ret
                    exact ⟨by rw [HF.out]; rfl, by first | exact HB.out | exact below_new1 _ _ | (rw [← HG.out]; exact HB.out)⟩
                  · have he := notEmpty xb (nilB xb hb0)
                    have HF : Hid ((decide (xa.size = 20) && E) = false) := by show _ = _; rw [HOK.out, HBW.out, decide_eq_false hb0]; simp
                    go_enter Try.func29, Try.ntmps29
                    go_wp2_with (first | (go_at_call 50; refine (HRB.out _).mono ?_; rintro e w1 ⟨rfl, hw⟩; obtain rfl := hw.symm) | fail)
                    go_ret
                    exact ⟨by rw [HF.out]; rfl, by first | exact HB.out | exact below_new1 _ _ | (rw [← HG.out]; exact HB.out)⟩
                · have hn0i : ¬ (xn : Int) = 0 := by omega
                  have HF : Hid ((decide (xa.size = 20) && E) = false) := by show _ = _; rw [HOK.out, HBW.out, decide_eq_false hn0]; simp
                  go_enter Try.func29, Try.ntmps29
                  go_wp2_with (first | (go_at_call 50; refine (HRB.out _).mono ?_; rintro e w1 ⟨rfl, hw⟩; obtain rfl := hw.symm) | fail)
                  go_ret
                  exact ⟨by rw [HF.out]; rfl, by first | exact HB.out | exact below_new1 _ _ | (rw [← HG.out]; exact HB.out)⟩
        · have hmi : (64 : Int) < M := by omega
          rcases hc with hc | hc
          · have hci : (xc.size : Int) = 0 := by omega
            have HF : Hid ((decide (xa.size = 20) && E) = false) := by show _ = _; rw [HOK.out, decide_eq_false hm]; simp
            go_enter Try.func29, Try.ntmps29
            go_wp2_with (first | (go_at_call 50; refine (HRB.out _).mono ?_; rintro e w1 ⟨rfl, hw⟩; obtain rfl := hw.symm) | fail)
            go_ret
            exact ⟨by rw [HF.out]; rfl, by first | exact HB.out | exact below_new1 _ _ | (rw [← HG.out]; exact HB.out)⟩
          · have hci : (xc.size : Int) = 32 := by omega
            have HF : Hid ((decide (xa.size = 20) && E) = false) := by show _ = _; rw [HOK.out, decide_eq_false hm]; simp
            go_enter Try.func29, Try.ntmps29
            go_wp2_with (first | (go_at_call 50; refine (HRB.out _).mono ?_; rintro e w1 ⟨rfl, hw⟩; obtain rfl := hw.symm) | fail)
            go_ret
            exact ⟨by rw [HF.out]; rfl, by first | exact HB.out | exact below_new1 _ _ | (rw [← HG.out]; exact HB.out)⟩
      · have hci : ¬ (xc.size : Int) = 0 := by omega
        have hcj : ¬ (xc.size : Int) = 32 := by omega
        have hce : ¬ xc = ByteArray.empty := by intro e; rw [e] at hci; exact hci rfl
        have HF : Hid ((decide (xa.size = 20) && E) = false) := by show _ = _; rw [HOK.out, HOA.out, decide_eq_false (fun h => hc (.inl h)), decide_eq_false (fun h => hc (.inr h))]; simp
        go_enter Try.func29, Try.ntmps29
        go_wp2_with (first | (go_at_call 50; refine (HRB.out _).mono ?_; rintro e w1 ⟨rfl, hw⟩; obtain rfl := hw.symm) | fail)
        go_ret
        exact ⟨by rw [HF.out]; rfl, by first | exact HB.out | exact below_new1 _ _ | (rw [← HG.out]; exact HB.out)⟩
  · have hai : ¬ (xa.size : Int) = 20 := by omega
    have HF : Hid ((decide (xa.size = 20) && E) = false) := by show _ = _; rw [decide_eq_false ha]; rfl
    go_enter Try.func29, Try.ntmps29
    go_wp2_with (first | (go_at_call 50; refine (HRB.out _).mono ?_; rintro e w1 ⟨rfl, hw⟩; obtain rfl := hw.symm) | fail)
    go_ret
    exact ⟨by rw [HF.out]; rfl, by first | exact HB.out | exact below_new1 _ _ | (rw [← HG.out]; exact HB.out)⟩
end Go.Proofs.Ytadpopjhhanapaa
