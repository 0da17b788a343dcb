/-
  Texts of this claim, put together.
-/
import Derived.Test.YtbidoangdnmjfaaDoorMBackW
import Derived.Test.YtbidoangdnmjfaaDoorMQChkW
/-
  The document's Record.
-/
namespace Go.Proofs.YtbidoangdnmjfaaDoor
open Go Go.RowKit

theorem hi_q {m : Nat} (hm : m < 65536) : (m : Int) / 256 = (((UInt8.ofNat (m / 256)).toNat : Nat) : Int) := by
  rw [UInt8.toNat_ofNat']
  omega
theorem lo_q {m : Nat} (hm : m < 65536) : bits BinOp.and IntKind.u16 (m : Int) 255 % 256 = (((UInt8.ofNat m).toNat : Nat) : Int) := by
  rw [show (255 : Int) = ((255 : Nat) : Int) from rfl, and_u16 _ _ hm (by decide), show (255 : Nat) = 2 ^ 8 - 1 from rfl, Nat.and_two_pow_sub_one_eq_mod, UInt8.toNat_ofNat']
  omega
theorem conv6 {s t h : Nat} (hs : s < 65536) (ht : t < 65536) (hh : h < 65536) (w : World) : (convert 48 9 (.slice (some ⟨w.heap.size, 0, none⟩) 6 6)).run Tryd.prog (w.alloc (.cells #[.int .u8 ((s : Int) / 256), .int .u8 (bits BinOp.and IntKind.u16 (s : Int) 255 % 256), .int .u8 ((t : Int) / 256), .int .u8 (bits BinOp.and IntKind.u16 (t : Int) 255 % 256), .int .u8 ((h : Int) / 256), .int .u8 (bits BinOp.and IntKind.u16 (h : Int) 255 % 256)] 5)) = .ok (.string ⟨(twoB s ++ twoB t ++ twoB h).toArray⟩) (w.alloc (.cells #[.int .u8 ((s : Int) / 256), .int .u8 (bits BinOp.and IntKind.u16 (s : Int) 255 % 256), .int .u8 ((t : Int) / 256), .int .u8 (bits BinOp.and IntKind.u16 (t : Int) 255 % 256), .int .u8 ((h : Int) / 256), .int .u8 (bits BinOp.and IntKind.u16 (h : Int) 255 % 256)] 5)) := by
  rw [hi_q hs, hi_q ht, hi_q hh, lo_q hs, lo_q ht, lo_q hh]
  exact run_convert_bytes_back (P := Tryd.prog) _ 48 9 5 ⟨w.heap.size, 0, none⟩ 6 (twoB s ++ twoB t ++ twoB h) underBytes (by kernel_rfl) (by kernel_rfl) (fun j hj => by
    have hj6 : j < 6 := hj
    rw [add_plainH, Nat.zero_add]
    refine ((Holds.new w 5 _).cell j).trans ?_
    rcases j with _ | _ | _ | _ | _ | _ | j
    · rfl
    · rfl
    · rfl
    · rfl
    · rfl
    · rfl
    · omega)
def accT (pre : List UInt8) (x : H32) (k : Nat) : ByteArray := ⟨(pre ++ x.1.take k).toArray⟩
theorem accT_succ (pre : List UInt8) (x : H32) {k : Nat} {c : UInt8} (h : k < x.1.length) (hc : x.1[k] = c) : accT pre x (k + 1) = accT pre x k ++ ⟨#[c]⟩ := by
  unfold accT
  apply ByteArray.ext
  apply Array.toList_inj.1
  rw [List.take_succ_eq_append_getElem h, hc]
  simp
theorem accT_size (pre : List UInt8) (x : H32) (k : Nat) : (accT pre x k).size ≤ pre.length + 32 := by
  show (pre ++ x.1.take k).length ≤ _
  rw [List.length_append, List.length_take, x.2]
  omega
def recP (s t h : Nat) (L : List H32) (i : Nat) : List UInt8 := twoB s ++ twoB t ++ twoB h ++ (L.take i).flatMap (·.1)
theorem recP_len (s t h : Nat) (L : List H32) (i : Nat) : (recP s t h L i).length ≤ 6 + L.length * 32 := by
  unfold recP
  rw [List.length_append, flat_len, List.length_take]
  show 6 + _ ≤ _
  omega
theorem recP_succ (s t h : Nat) {L : List H32} {i : Nat} {x : H32} (hx : L[i]? = some x) : (⟨(recP s t h L (i + 1)).toArray⟩ : ByteArray) = accT (recP s t h L i) x 32 := by
  unfold recP accT
  have ht : x.1.take 32 = x.1 := List.take_of_length_le (by rw [x.2]; exact Nat.le_refl _)
  rw [flat_take hx, ht]
  simp only [List.append_assoc]
set_option maxRecDepth 8000 in
set_option maxHeartbeats 4000000 in
theorem qrecord_any {w : World} {s t h : Nat} {v : Value} {L : List H32} (hs : s < 65536) (ht : t < 65536) (hh : h < 65536) (hv : HashesAt w v L) (hl : L.length ≤ 1000) :
    Calls Tryd.prog 10 #[brV s t h v] w fun e w' => e = .returned (.tuple #[.string (recE s t h L), .int .i64 (chkM s t h L.length)]) ∧ Below w.heap.size w w' := by
  obtain ⟨p, c, rfl⟩ := hv.shape
  obtain ⟨n, hn⟩ : ∃ n, L.length = n := ⟨_, rfl⟩
  have HN : Hid (L.length = n) := hn
  rw [hn] at hv hl ⊢
  have HE : Hid (recE s t h L = if chkM s t h n = 0 then ⟨(recB s t h L).toArray⟩ else ⟨#[]⟩) := by unfold recE; rw [hn]; rfl
  clear hn
  obtain ⟨W0, g, hW0, hg, hB0, hb0, b0, b1, b2, b3⟩ := box_br w s t h (.slice p n c)
  have hck := qcheck_any (w := W0) (s := s) (t := t) (h := h) (n := n) (c := c) (p := p) hs ht hh (by omega)
  have HB : Hid (Below w.heap.size w W0) := hB0
  have HG : Hid (w.heap.size = g) := hg
  have HV : Hid (HashesAt W0 (.slice p n c) L) := hv.below hB0
  have HH : Hid (Holds W0 g 25 (brC s t h (.slice p n c))) := hb0
  obtain ⟨E, hE⟩ : ∃ E, chkM s t h n = E := ⟨_, rfl⟩
  rw [hE] at hck HE ⊢
  clear hE hv hB0
  unfold brC at hb0
  unfold brV at hck ⊢
  by_cases h0 : E = 0
  · subst h0
    go_enter Tryd.func10, Tryd.ntmps10
    have hcv6 := conv6 hs ht hh
    have HEE : Hid (recE s t h L = ⟨(recP s t h L n).toArray⟩) := by
      show _ = _
      rw [HE.out, if_pos rfl]
      unfold recB recP
      rw [List.take_of_length_le (by have := HN.out; omega)]
    go_wp2_with (first
      | (refine wpList_loadH rfl 25 _ rfl _ rfl _ _ _ hb0 Tryd.underlying25 rfl infoBr ?_)
      | (go_at_call 17; refine hck.mono ?_; rintro e w1 ⟨rfl, hB1⟩; have c0 := keep_cellM hB1 b0; have c1 := keep_cellM hB1 b1; have c2 := keep_cellM hB1 b2; have c3 := keep_cellM hB1 b3)
      | fail)
    have HV1 : Hid (HashesAt w1 (.slice p n c) L) := HV.out.below hB1
    have HB1 : Hid (Below w.heap.size w w1) := below_new HB.out hB1
    clear b0 b1 b2 b3 c0 c1 c2 hcv6 hck hb0 hB1
    go_loopw [5, 6] (fun z y wr => ∃ i : Nat, y = .int .i64 (i : Nat) ∧ z = .string ⟨(recP s t h L i).toArray⟩ ∧ i ≤ n ∧ Below w1.heap.size w1 wr) (fun _ y _ => n - (intOf y).toNat)
    case atStart => exact ⟨0, rfl, by unfold recP; simp, Nat.zero_le _, below_new1 _ _⟩
    case round =>
      obtain ⟨i, rfl, rfl, hi, hBi⟩ := hrel
      have d3 := keep_cellM hBi c3
      by_cases hin : i < n
      · have hii : (i : Int) < n := by omega
        obtain ⟨x, hx⟩ : ∃ x, L[i]? = some x := ⟨_, List.getElem?_eq_getElem (by have := HN.out; omega)⟩
        have HP : Hid ((⟨(recP s t h L (i + 1)).toArray⟩ : ByteArray) = accT (recP s t h L i) x 32) := recP_succ s t h hx
        have hlen : (recP s t h L i).length ≤ 40000 := Nat.le_trans (recP_len s t h L i) (by have := HN.out; omega)
        obtain ⟨b, o, hbo, -, hat⟩ := HV1.out.at hx
        subst hbo
        have HAT : Hid (HashAt w1 b (o + i * 32) x) := hat
        have e0 : (⟨(recP s t h L i).toArray⟩ : ByteArray) = accT (recP s t h L i) x 0 := by unfold accT; rw [List.take_zero, List.append_nil]
        rw [e0]
        clear e0 hat hx
        generalize recP s t h L i = P at *
        go_wp2_with fail
        go_loopw [5, 7] (fun z y wz => ∃ k : Nat, y = .int .i64 (k : Nat) ∧ z = .string (accT P x k) ∧ k ≤ 32 ∧ Below w1.heap.size w1 wz) (fun _ y _ => 32 - (intOf y).toNat)
        case atStart => exact ⟨0, rfl, rfl, Nat.zero_le _, hBi⟩
        case round =>
          obtain ⟨k, rfl, rfl, hk, hBk⟩ := hrel
          have e3 := keep_cellM hBk c3
          by_cases hk32 : k < 32
          · have hki : (k : Int) < 32 := by omega
            have hlx : k < x.1.length := by rw [x.2]; exact hk32
            obtain ⟨cc, hc⟩ : ∃ cc, x.1[k] = cc := ⟨_, rfl⟩
            have hci : wr.cell? ⟨b, o + i * 32 + k, none⟩ = some (.int .u8 (cc.toNat : Nat)) := by
              rw [HAT.out.below hBk k hk32]
              simp [hcl, hlx, hc]
            have HS : Hid (accT P x (k + 1) = accT P x k ++ ⟨#[cc]⟩) := accT_succ P x hlx hc
            have HTL : Hid ((accT P x k).size ≤ 40032) := Nat.le_trans (accT_size P x k) (by omega)
            generalize accT P x k = T at *
            have hTs : T.size + (⟨#[cc]⟩ : ByteArray).size ≤ 9223372036854775807 := by have h1 := HTL.out; show T.size + 1 ≤ _; omega
            have hcv := fun w => convert_oneM w cc
            go_wp2_with (refine wpList_addM _ _ rfl rfl rfl hTs rfl ?_)
            go_roundw
            case measure => simp [intOf]; omega
            exact ⟨k + 1, by go_num, by rw [HS.out], by omega, below_new hBk (below_new1 _ _)⟩
          · have hki : ¬ (k : Int) < 32 := by omega
            obtain rfl : k = 32 := by omega
            go_wp2_with fail
            go_roundw
            case measure => simp [intOf]; omega
            exact ⟨i + 1, by go_num, by rw [HP.out], by omega, hBk⟩
      · have hii : ¬ (i : Int) < n := by omega
        obtain rfl : i = n := by omega
        go_wp2_with fail
        go_ret2
        have HF := below_new HB1.out hBi
        exact ⟨by rw [HEE.out]; rfl, by first | exact HF | (rw [← HG.out]; exact HF)⟩
  · have hEi : ¬ (E : Int) = 0 := h0
    have HEE : Hid (recE s t h L = ⟨#[]⟩) := by show _ = _; rw [HE.out, if_neg h0]
    clear b0 b1 b2 b3
    go_enter Tryd.func10, Tryd.ntmps10
    go_wp2_with (first
      | (refine wpList_loadH rfl 25 _ rfl _ rfl _ _ _ hb0 Tryd.underlying25 rfl infoBr ?_)
      | (go_at_call 17; refine hck.mono ?_; rintro e w1 ⟨rfl, hB1⟩)
      | fail)
    go_ret2
    have HF := below_new HB.out hB1
    exact ⟨by rw [HEE.out]; rfl, by first | exact HF | (rw [← HG.out]; exact HF)⟩
end Go.Proofs.YtbidoangdnmjfaaDoor
/-
  The document's Read.
-/
namespace Go.Proofs.YtbidoangdnmjfaaDoor
open Go Go.RowKit

section
variable {ops : Array Oper} {rest : List Oper} {op : Oper} {a : Act} {w : World} {Q : Exit → Act → World → Prop}
theorem wpList_stM (hw : Region.wanted op (yielded ops a.tmps) = true) (ty : TypeId) (x y : Operand) (ho : op.op = .store ty x y)
    {ad : Addr} {v : Value} (hx : a.eval x = .pointer (some ad)) (hy : a.eval y = v) {w' : World} (hst : (storeVar ty ad v).run Tryd.prog w = .ok () w') (h : wpList Tryd.prog ops Q rest (a.put op.dst undef) w') : wpList Tryd.prog ops Q (op :: rest) a w :=
  wpList_step fun _ hK => by
    rw [if_pos hw]
    unfold Oper.wp execOp
    simp only [ho, hx, hy, Instr.storeAt, Instr.sureAddr, Sem.run_bind, Sem.run_pure, Result.andThen_ok, hst]
    exact hK _ _ h
end
def okSz (r : ByteArray) : Prop := 6 ≤ r.size ∧ (r.size - 6) % 32 = 0 ∧ r.size ≤ 518
theorem rdE_sz {r : ByteArray} (h : rdE r = true) : okSz r := by
  unfold rdE at h
  simp only [Bool.and_eq_true, decide_eq_true_eq] at h
  have := cntM_le (rdH r)
  exact ⟨h.1.1, by omega, by omega⟩
theorem RdPost.nothing {r : ByteArray} {w w' : World} (h : rdE r = false) (hB : Below w.heap.size w w') : RdPost r w (.returned (.tuple #[.agg #[.int .u16 0, .int .u16 0, .int .u16 0, .slice none 0 0], .int .i64 10])) w' := by
  refine ⟨0, 0, 0, .slice none 0 0, [], ?_, .nil _ _, hB, ?_, ?_, ?_, ?_⟩ <;> rw [h] <;> rfl
set_option maxRecDepth 8000 in
set_option maxHeartbeats 4000000 in
theorem qread_bad {w : World} (r : ByteArray) (hr : r.size ≤ 9223372036854775807) (hb : ¬ okSz r) : Calls Tryd.prog 12 #[.string r] w fun e w' => RdPost r w e w' := by
  have hE : rdE r = false := by
    cases h : rdE r with
    | false => rfl
    | true => exact absurd (rdE_sz h) hb
  obtain ⟨W0, g, hW0, hg, hB0, hb0⟩ := box_zero w
  have HP : Hid (∀ w', Below w.heap.size w w' → RdPost r w (.returned (.tuple #[.agg #[.int .u16 0, .int .u16 0, .int .u16 0, .slice none 0 0], .int .i64 10])) w') := fun w' h => RdPost.nothing hE h
  have HB : Hid (Below w.heap.size w W0 ∧ w.heap.size = g) := ⟨hB0, hg⟩
  unfold brC at hb0
  clear hE hB0
  by_cases h6 : 6 ≤ r.size
  · have h6i : ¬ (r.size : Int) < 6 := by omega
    by_cases h32 : (r.size - 6) % 32 = 0
    · have h518 : (518 : Int) < r.size := by
        have : ¬ r.size ≤ 518 := fun q => hb ⟨h6, h32, q⟩
        omega
      have hwr : IntKind.i64.wrap ((r.size : Int) - 6) = (r.size : Int) - 6 := by rw [IntKind.wrap_i64]; omega
      have hm : ((r.size : Int) - 6) % 32 = 0 := by omega
      clear hb h32
      go_enter Tryd.func12, Tryd.ntmps12
      go_wp2_with (refine wpList_storeH rfl 25 _ _ rfl _ _ rfl rfl _ _ hb0 infoBr rfl (by simp [Value.oneCell']) ?_; intro W10 h10 hO10 hs10)
      refine bodyPost_ret (results_cellM rfl _ _ _ _ _ _ rfl h10 Tryd.underlying25 rfl infoBr) rfl ?_
      show RdPost _ _ (.returned (.tuple #[.agg #[.int .u16 0, .int .u16 0, .int .u16 0, .slice none 0 0], .int .i64 10])) _
      exact HP.out _ (Only.fresh HB.out.1 hO10 (by have := HB.out.2; omega))
    · have hwr : IntKind.i64.wrap ((r.size : Int) - 6) = (r.size : Int) - 6 := by rw [IntKind.wrap_i64]; omega
      have hm : ¬ ((r.size : Int) - 6) % 32 = 0 := by omega
      clear hb h32
      go_enter Tryd.func12, Tryd.ntmps12
      go_wp2_with (refine wpList_storeH rfl 25 _ _ rfl _ _ rfl rfl _ _ hb0 infoBr rfl (by simp [Value.oneCell']) ?_; intro W10 h10 hO10 hs10)
      refine bodyPost_ret (results_cellM rfl _ _ _ _ _ _ rfl h10 Tryd.underlying25 rfl infoBr) rfl ?_
      show RdPost _ _ (.returned (.tuple #[.agg #[.int .u16 0, .int .u16 0, .int .u16 0, .slice none 0 0], .int .i64 10])) _
      exact HP.out _ (Only.fresh HB.out.1 hO10 (by have := HB.out.2; omega))
  · have h6i : (r.size : Int) < 6 := by omega
    clear hb
    go_enter Tryd.func12, Tryd.ntmps12
    go_wp2_with (refine wpList_storeH rfl 25 _ _ rfl _ _ rfl rfl _ _ hb0 infoBr rfl (by simp [Value.oneCell']) ?_; intro W10 h10 hO10 hs10)
    refine bodyPost_ret (results_cellM rfl _ _ _ _ _ _ rfl h10 Tryd.underlying25 rfl infoBr) rfl ?_
    show RdPost _ _ (.returned (.tuple #[.agg #[.int .u16 0, .int .u16 0, .int .u16 0, .slice none 0 0], .int .i64 10])) _
    exact HP.out _ (Only.fresh HB.out.1 hO10 (by have := HB.out.2; omega))
theorem cells_take {l : List UInt8} (hl : 32 ≤ l.length) {cs : Array Value} (hs : cs.size = 32) (h : ∀ j, j < 32 → cs[j]? = some (.int .u8 (((l.getD j 0).toNat : Nat) : Int))) : cs = (hcl (takeH l)).toArray := by
  apply Array.ext
  · simp [hcl_len, hs]
  · intro j h1 h2
    have hj : j < 32 := by omega
    have h3 := h j hj
    rw [Array.getElem?_eq_getElem h1] at h3
    injection h3 with h3
    rw [h3]
    have h4 : (hcl (takeH l))[j]? = some (.int .u8 (((l.getD j 0).toNat : Nat) : Int)) := by
      rw [hcl_take hl, List.getElem?_map, List.getElem?_take, if_pos hj, List.getD_eq_getElem?_getD, List.getElem?_eq_getElem (by omega)]
      rfl
    have h5 : j < (hcl (takeH l)).length := by rw [hcl_len]; exact hj
    rw [List.getElem?_eq_getElem h5] at h4
    injection h4 with h4
    exact h4.symm
theorem getD_drop2 (l : List UInt8) (i j : Nat) : ((l.drop 6).drop (i * 32)).getD j 0 = l.getD (6 + 32 * i + j) 0 := by
  rw [List.getD_eq_getElem?_getD, List.getD_eq_getElem?_getD, List.getElem?_drop, List.getElem?_drop, show 6 + (i * 32 + j) = 6 + 32 * i + j by omega]
set_option maxRecDepth 8000 in
set_option maxHeartbeats 8000000 in
theorem qread_ok {w : World} (r : ByteArray) (hz : okSz r) : Calls Tryd.prog 12 #[.string r] w fun e w' => RdPost r w e w' := by
  obtain ⟨h6, h32, h518⟩ := hz
  obtain ⟨n, hn⟩ : ∃ n, r.size = 6 + 32 * n := ⟨(r.size - 6) / 32, by omega⟩
  have hn16 : n ≤ 16 := by omega
  have h6i : ¬ (r.size : Int) < 6 := by omega
  have h518i : ¬ (518 : Int) < r.size := by omega
  have hwr : IntKind.i64.wrap ((r.size : Int) - 6) = (r.size : Int) - 6 := by rw [IntKind.wrap_i64]; omega
  have hm : ((r.size : Int) - 6) % 32 = 0 := by omega
  obtain ⟨W0, g, hW0, hg, hB0, hb0⟩ := box_zero w
  have HB : Hid (Below w.heap.size w W0 ∧ w.heap.size = g) := ⟨hB0, hg⟩
  have HH : Hid (Holds W0 g 25 #[.int .u16 0, .int .u16 0, .int .u16 0, .slice none 0 0]) := hb0
  obtain ⟨c0, h0⟩ : ∃ c, r.data.toList.getD 0 0 = c := ⟨_, rfl⟩
  obtain ⟨c1, h1⟩ : ∃ c, r.data.toList.getD 1 0 = c := ⟨_, rfl⟩
  obtain ⟨c2, h2⟩ : ∃ c, r.data.toList.getD 2 0 = c := ⟨_, rfl⟩
  obtain ⟨c3, h3⟩ : ∃ c, r.data.toList.getD 3 0 = c := ⟨_, rfl⟩
  obtain ⟨c4, h4⟩ : ∃ c, r.data.toList.getD 4 0 = c := ⟨_, rfl⟩
  obtain ⟨c5, h5⟩ : ∃ c, r.data.toList.getD 5 0 = c := ⟨_, rfl⟩
  have i0 : ∀ w, (Instr.index 9 (.string r) (.int .i64 0)).run Tryd.prog w = .ok (.int .u8 ((c0.toNat : Nat) : Int)) w := fun w => idxO r 0 c0 (by omega) h0 w
  have i1 : ∀ w, (Instr.index 9 (.string r) (.int .i64 1)).run Tryd.prog w = .ok (.int .u8 ((c1.toNat : Nat) : Int)) w := fun w => idxO r 1 c1 (by omega) h1 w
  have i2 : ∀ w, (Instr.index 9 (.string r) (.int .i64 2)).run Tryd.prog w = .ok (.int .u8 ((c2.toNat : Nat) : Int)) w := fun w => idxO r 2 c2 (by omega) h2 w
  have i3 : ∀ w, (Instr.index 9 (.string r) (.int .i64 3)).run Tryd.prog w = .ok (.int .u8 ((c3.toNat : Nat) : Int)) w := fun w => idxO r 3 c3 (by omega) h3 w
  have i4 : ∀ w, (Instr.index 9 (.string r) (.int .i64 4)).run Tryd.prog w = .ok (.int .u8 ((c4.toNat : Nat) : Int)) w := fun w => idxO r 4 c4 (by omega) h4 w
  have i5 : ∀ w, (Instr.index 9 (.string r) (.int .i64 5)).run Tryd.prog w = .ok (.int .u8 ((c5.toNat : Nat) : Int)) w := fun w => idxO r 5 c5 (by omega) h5 w
  have HD : Hid (rdS r = c0.toNat * 256 + c1.toNat ∧ rdT r = c2.toNat * 256 + c3.toNat ∧ rdH r = c4.toNat * 256 + c5.toNat) := by
    refine ⟨?_, ?_, ?_⟩
    · unfold rdS maskL; rw [h0, h1]
    · unfold rdT maskL; rw [List.getD_eq_getElem?_getD, List.getD_eq_getElem?_getD, List.getElem?_drop, List.getElem?_drop, ← List.getD_eq_getElem?_getD, ← List.getD_eq_getElem?_getD, h2, h3]
    · unfold rdH maskL; rw [List.getD_eq_getElem?_getD, List.getD_eq_getElem?_getD, List.getElem?_drop, List.getElem?_drop, ← List.getD_eq_getElem?_getD, ← List.getD_eq_getElem?_getD, h4, h5]
  have g0 := c0.toNat_lt
  have g1 := c1.toNat_lt
  have g2 := c2.toNat_lt
  have g3 := c3.toNat_lt
  have g4 := c4.toNat_lt
  have g5 := c5.toNat_lt
  clear h0 h1 h2 h3 h4 h5 hB0 hb0 h32
  generalize c0.toNat = a0 at *
  generalize c1.toNat = a1 at *
  generalize c2.toNat = a2 at *
  generalize c3.toNat = a3 at *
  generalize c4.toNat = a4 at *
  generalize c5.toNat = a5 at *
  go_enter Tryd.func12, Tryd.ntmps12
  go_wp2_with fail
  obtain ⟨W3, gb, hW3, hgb, hB3, hz3⟩ := box_zero W0.drew
  have hB3' : Below W0.heap.size W0 W3 := below_drewL hB3
  refine wp_region_u (fun W => Below W0.heap.size W0 W) (.take 0 (.take 1 (.take 2 (.take 3 (.take 4 (.take 5 (.take 6 (.take 7 (.take 8 (.take 9 (.take 10 (.take 11 (.take 12 (.take 13 (.take 14 (.take 15 (.take 16 (.take 17 (.take 18 (.take 19 (.take 20 (.take 21 (.take 22 (.take 23 (.take 24 (.one 25 (.one 26 .nil))))))))))))))))))))))))))) mixedP (by kernel_rfl) rfl (by kernel_rfl) (fun _ _ _ d _ h => by cases d <;> exact h) (below_drewR (Below.refl _ _)) ?_
  refine u_val (some 24) rfl rfl rfl (.string r) (fun w => by go_simp) ?_
  go_frame
  refine u_val (some 25) rfl rfl rfl (.int .u8 (a0 : Nat)) (fun w => by have hq := i0 w; go_simp) ?_
  go_frame
  refine u_val (some 26) rfl rfl rfl (.int .u16 (a0 : Nat)) (fun w => by go_simp; first | done | (rw [wrap_u16]; omega) | omega) ?_
  go_frame
  refine u_val (some 27) rfl rfl rfl (.int .u16 (a0 * 256 : Nat)) (fun w => by go_simp; first | done | (rw [wrap_u16]; omega) | omega) ?_
  go_frame
  refine u_val (some 28) rfl rfl rfl (.string r) (fun w => by go_simp) ?_
  go_frame
  refine u_val (some 29) rfl rfl rfl (.int .u8 (a1 : Nat)) (fun w => by have hq := i1 w; go_simp) ?_
  go_frame
  refine u_val (some 30) rfl rfl rfl (.int .u16 (a1 : Nat)) (fun w => by go_simp; first | done | (rw [wrap_u16]; omega) | omega) ?_
  go_frame
  refine u_val (some 31) rfl rfl rfl (.int .u16 (a0 * 256 + a1 : Nat)) (fun w => by go_simp; first | done | (rw [wrap_u16]; omega) | omega) ?_
  go_frame
  refine u_val (some 32) rfl rfl rfl (.string r) (fun w => by go_simp) ?_
  go_frame
  refine u_val (some 33) rfl rfl rfl (.int .u8 (a2 : Nat)) (fun w => by have hq := i2 w; go_simp) ?_
  go_frame
  refine u_val (some 34) rfl rfl rfl (.int .u16 (a2 : Nat)) (fun w => by go_simp; first | done | (rw [wrap_u16]; omega) | omega) ?_
  go_frame
  refine u_val (some 35) rfl rfl rfl (.int .u16 (a2 * 256 : Nat)) (fun w => by go_simp; first | done | (rw [wrap_u16]; omega) | omega) ?_
  go_frame
  refine u_val (some 36) rfl rfl rfl (.string r) (fun w => by go_simp) ?_
  go_frame
  refine u_val (some 37) rfl rfl rfl (.int .u8 (a3 : Nat)) (fun w => by have hq := i3 w; go_simp) ?_
  go_frame
  refine u_val (some 38) rfl rfl rfl (.int .u16 (a3 : Nat)) (fun w => by go_simp; first | done | (rw [wrap_u16]; omega) | omega) ?_
  go_frame
  refine u_val (some 39) rfl rfl rfl (.int .u16 (a2 * 256 + a3 : Nat)) (fun w => by go_simp; first | done | (rw [wrap_u16]; omega) | omega) ?_
  go_frame
  refine u_val (some 40) rfl rfl rfl (.string r) (fun w => by go_simp) ?_
  go_frame
  refine u_val (some 41) rfl rfl rfl (.int .u8 (a4 : Nat)) (fun w => by have hq := i4 w; go_simp) ?_
  go_frame
  refine u_val (some 42) rfl rfl rfl (.int .u16 (a4 : Nat)) (fun w => by go_simp; first | done | (rw [wrap_u16]; omega) | omega) ?_
  go_frame
  refine u_val (some 43) rfl rfl rfl (.int .u16 (a4 * 256 : Nat)) (fun w => by go_simp; first | done | (rw [wrap_u16]; omega) | omega) ?_
  go_frame
  refine u_val (some 44) rfl rfl rfl (.string r) (fun w => by go_simp) ?_
  go_frame
  refine u_val (some 45) rfl rfl rfl (.int .u8 (a5 : Nat)) (fun w => by have hq := i5 w; go_simp) ?_
  go_frame
  refine u_val (some 46) rfl rfl rfl (.int .u16 (a5 : Nat)) (fun w => by go_simp; first | done | (rw [wrap_u16]; omega) | omega) ?_
  go_frame
  refine u_val (some 47) rfl rfl rfl (.int .u16 (a4 * 256 + a5 : Nat)) (fun w => by go_simp; first | done | (rw [wrap_u16]; omega) | omega) ?_
  go_frame
  refine u_val (some 48) rfl rfl rfl (.agg #[.int .u16 (a0 * 256 + a1 : Nat), .int .u16 (a2 * 256 + a3 : Nat), .int .u16 (a4 * 256 + a5 : Nat), .slice none 0 0]) (fun w => by go_simp) ?_
  go_frame
  refine op_val (some 4) rfl rfl rfl (v := .pointer (some ⟨gb, 0, none⟩)) (w' := W3) (by rw [← hW3, ← hgb]; go_simp) ?_
  refine ⟨hB3', ?_⟩
  go_frame
  refine op_storeH none rfl rfl rfl 25 _ _ rfl gb _ rfl rfl 25 _ hz3 infoBr rfl (by simp [Value.oneCell']) ?_
  intro V4 h4 o4 z4
  have hgbl : W0.heap.size = gb := hgb
  have hB4 : Below W0.heap.size W0 V4 := Only.fresh hB3' o4 (by omega)
  refine ⟨hB4, ?_⟩
  go_frame
  refine then_normR ?_
  have hS : a0 * 256 + a1 < 65536 := by omega
  have hT : a2 * 256 + a3 < 65536 := by omega
  have hH : a4 * 256 + a5 < 65536 := by omega
  clear i0 i1 i2 i3 i4 i5 hwr hm
  generalize a0 * 256 + a1 = S at *
  generalize a2 * 256 + a3 = T at *
  generalize a4 * 256 + a5 = H at *
  have HV4 : Hid (Below W0.heap.size W0 V4 ∧ Holds V4 gb 25 #[.int .u16 (S : Nat), .int .u16 (T : Nat), .int .u16 (H : Nat), .slice none 0 0] ∧ W0.heap.size = gb ∧ gb < V4.heap.size ∧ g < W0.heap.size) := ⟨hB4, h4, hgbl, h4.lt, HH.out.lt⟩
  clear hz3 hB3 hB3' hW3 hgb h4 o4 z4 hB4 hgbl g0 g1 g2 g3 g4 g5
  have HSZ : Hid (r.size = 6 + 32 * n) := hn
  go_at_K
  go_wp2_with fail
  go_loopw [5] (fun y wr => ∃ (i : Nat) (sv : Value), y = .int .i64 (6 + 32 * (i : Nat)) ∧ i ≤ n ∧ Only gb V4 wr ∧ Hid (Holds wr gb 25 #[.int .u16 (S : Nat), .int .u16 (T : Nat), .int .u16 (H : Nat), sv]) ∧ OwnH wr V4.heap.size sv (hsL (r.data.toList.drop 6) i)) (fun y _ => 600 - (intOf y).toNat)
  case atStart => exact ⟨0, .slice none 0 0, rfl, Nat.zero_le _, Only.refl _ _, HV4.out.2.1, OwnH.nil _ _⟩
  case round =>
    obtain ⟨i, sv, rfl, hi, hO, HH8, hown⟩ := hrel
    by_cases hin : i < n
    · have hii : (6 : Int) + 32 * i < r.size := by omega
      obtain ⟨wo, rfl⟩ : ∃ wo, wo = wr := ⟨_, rfl⟩
      obtain ⟨V5, hV5⟩ : ∃ W, World.alloc wo (.cells zero32 43) = W := ⟨_, rfl⟩
      obtain ⟨g6, hg6⟩ : ∃ gz, wo.heap.size = gz := ⟨_, rfl⟩
      have hz5 : Holds V5 g6 43 (hcl zeroH).toArray := by rw [← hV5, ← hg6]; exact Holds.new _ _ _
      have hB5 : Below wo.heap.size wo V5 := by rw [← hV5]; exact below_new1 _ _
      rw [zero32_eq] at hV5
      go_wp2_with fail
      go_loopw [7] (fun y wz => ∃ (k : Nat) (cs : Array Value), y = .int .i64 (k : Nat) ∧ k ≤ 32 ∧ Below wo.heap.size wo wz ∧ Hid (Holds wz g6 43 cs) ∧ cs.size = 32 ∧ Hid (∀ j, j < k → cs[j]? = some (.int .u8 (((r.data.toList.getD (6 + 32 * i + j) 0).toNat : Nat) : Int)))) (fun y _ => 32 - (intOf y).toNat)
      case atStart => exact ⟨0, (hcl zeroH).toArray, rfl, Nat.zero_le _, hB5, hz5, by simp [hcl_len], fun j hj => absurd hj (Nat.not_lt_zero j)⟩
      case round =>
        obtain ⟨k, cs, rfl, hk, hBk, HC, hcs, HCS⟩ := hrel
        by_cases hk32 : k < 32
        · have hki : (k : Int) < 32 := by omega
          obtain ⟨c, hc⟩ : ∃ c, r.data.toList.getD (6 + 32 * i + k) 0 = c := ⟨_, rfl⟩
          have hix : ∀ w, (Instr.index 9 (.string r) (.int .i64 (6 + 32 * (i : Int) + (k : Int)))).run Tryd.prog w = .ok (.int .u8 ((c.toNat : Nat) : Int)) w := fun w => by
            have := idxO r (6 + 32 * i + k) c (by have := HSZ.out; omega) hc w
            rw [show ((6 + 32 * i + k : Nat) : Int) = 6 + 32 * (i : Int) + (k : Int) by omega] at this
            exact this
          have hwk : IntKind.i64.wrap (6 + 32 * (i : Int) + (k : Int)) = 6 + 32 * (i : Int) + (k : Int) := by rw [IntKind.wrap_i64]; omega
          have hck := HC.out.cell k
          rw [Array.getElem?_eq_getElem (by omega)] at hck
          have hfk := HC.out.frozen k
          go_wp2_with fail
          go_roundw
          case measure => simp [intOf]; omega
          have oS : Only g6 wr (wr.setCell ⟨g6, k, none⟩ (.int .u8 (c.toNat : Nat))) := (Only.refl g6 wr).set k _
          refine ⟨k + 1, cs.setIfInBounds k (.int .u8 (c.toNat : Nat)), by go_num, by omega, Only.fresh hBk oS (by omega), HC.out.set k _, by simpa using hcs, fun j hj => ?_⟩
          by_cases hjk : j = k
          · subst hjk
            rw [Array.getElem?_setIfInBounds_self_of_lt (by omega), hc]
          · rw [Array.getElem?_setIfInBounds_ne (by omega)]
            exact HCS.out j (by omega)
        · have hki : ¬ (k : Int) < 32 := by omega
          obtain rfl : k = 32 := by omega
          have hl32 : 32 ≤ ((r.data.toList.drop 6).drop (i * 32)).length := by
            rw [List.length_drop, List.length_drop]
            have h1 : r.data.toList.length = r.size := rfl
            have h2 := HSZ.out
            omega
          have hcse := cells_take hl32 hcs (fun j hj => by rw [getD_drop2]; exact HCS.out j hj)
          subst hcse
          have HSU : Hid (hsL (r.data.toList.drop 6) i ++ [takeH ((r.data.toList.drop 6).drop (i * 32))] = hsL (r.data.toList.drop 6) (i + 1)) := (hsL_succ _ _).symm
          have k6 := HC.out.hash
          have hownr := hown.below0 hBk
          have hbr := below_holds hBk HH8.out
          have hlt := hown.new
          have hblk := hown.blk
          have c3 := hbr.cell 3
          simp at c3
          have HKL : Hid ((hsL (r.data.toList.drop 6) i).length ≤ 16) := by show _ ≤ _; rw [hsL_len]; omega
          have hsz8 : V4.heap.size ≤ wr.heap.size := Nat.le_trans hO.size hBk.size
          have K1 : KeepS gb sv wo wr := KeepS.refl.below hBk
          generalize takeH ((r.data.toList.drop 6).drop (i * 32)) = z at *
          obtain ⟨sp, sc, hsv⟩ := hown.shape
          obtain ⟨m0, hm0⟩ : ∃ m0, (hsL (r.data.toList.drop 6) i).length = m0 := ⟨_, rfl⟩
          rw [hm0] at hsv
          subst hsv
          have hngb : (Value.slice sp m0 sc).ownBlock ≠ some gb := fun e => by have h1 := hlt gb e; have h2 := HV4.out.2.2.2.1; omega
          clear HCS hcs hm0
          go_wp2_with (first
            | (refine wpList_ldG rfl _ rfl rfl k6 ?_)
            | (refine wpList_buildH rfl _ rfl rfl ?_
               have hq := Holds.new wr 43 (hcl z).toArray
               have hC6 := below_new1 wr (.cells (hcl z).toArray 43))
            | (refine wpList_append_h rfl _ _ rfl rfl rfl (hownr.below0 hC6) (HashesAt.one hq) (by have := HKL.out; simp only [List.length_singleton]; omega) (by have := hC6.size; omega) ?_
               intro v9 w9 hown9 hg9
               have K9 := (K1.below hC6).grown hg9
               have hH9 := holds_grownM (below_holds hC6 hbr) hg9 (fun e => hngb e.symm)
               have hlt9 := hown9.new
               have hblk9 := hown9.blk
               obtain ⟨p9, c9, hsh9⟩ := hown9.shape
               rw [List.length_append, List.length_singleton] at hsh9
               subst hsh9)
            | (refine wpList_stM rfl 23 _ _ rfl rfl rfl (run_stHs hH9 (i := 3) (by show 3 < 4; decide) _ _ _) ?_)
            | fail)
          go_roundw
          case measure => simp [intOf]; omega
          have oL : Only gb w9 (w9.setCell ⟨gb, 3, none⟩ (.slice p9 ((hsL (r.data.toList.drop 6) i).length + 1) c9)) := (Only.refl gb w9).set 3 _
          refine ⟨i + 1, by omega, by omega, (K9.only oL).from hO (fun j hj => hlt j hj), .slice p9 ((hsL (r.data.toList.drop 6) i).length + 1) c9, ?_, ?_⟩
          · show Holds _ _ _ _
            have := hH9.set 3 (.slice p9 ((hsL (r.data.toList.drop 6) i).length + 1) c9)
            simpa using this
          · rw [← HSU.out]
            exact hown9.block fun j hj => oL.block j (hblk9 j hj) (by have h1 := hlt9 j hj; have h2 := HV4.out.2.2.2.1; omega)
    · have hii : ¬ (6 : Int) + 32 * i < r.size := by omega
      obtain rfl : i = n := by omega
      have HL : Hid ((hsL (r.data.toList.drop 6) i).length = i) := hsL_len _ _
      obtain ⟨sp, sc, rfl⟩ := hown.shape
      rw [HL.out] at hown HH8
      have hlt := hown.new
      have hblk := hown.blk
      have HCK : Hid (Calls Tryd.prog 17 #[.agg #[.int .u16 (S : Nat), .int .u16 (T : Nat), .int .u16 (H : Nat), .slice sp i sc]] wr fun e w' => e = .returned (.int .i64 (chkM S T H i)) ∧ Below wr.heap.size wr w') := qcheck_any (w := wr) (s := S) (t := T) (h := H) (n := i) hS hT hH (by omega)
      have hBr : Below W0.heap.size W0 wr := Only.fresh HV4.out.1 hO (by have := HV4.out.2.2.1; omega)
      have hres := below_holds hBr HH.out
      have hb := HH8.out
      obtain ⟨E, hE⟩ : ∃ E, chkM S T H i = E := ⟨_, rfl⟩
      have hgn : w.heap.size ≤ g := by have := HB.out.2; omega
      have hgV : g < V4.heap.size := by have := HV4.out; omega
      rw [hE] at HCK
      by_cases h0 : E = 0
      · subst h0
        have hiH := chkM_zero hE
        have HT1 : Hid (rdE r = true) := by
          show _ = _
          unfold rdE
          rw [HD.out.1, HD.out.2.1, HD.out.2.2, ← hiH, decide_eq_true h6, decide_eq_true (show r.size = 6 + 32 * i from HSZ.out), decide_eq_true hE]
          rfl
        have HLr : Hid (rdL r = hsL (r.data.toList.drop 6) i) := by show _ = _; unfold rdL; rw [HD.out.2.2, ← hiH]
        clear hiH hE
        go_wp2_with (first
          | (refine wpList_storeH rfl 25 _ _ rfl g #[.int .u16 (S : Nat), .int .u16 (T : Nat), .int .u16 (H : Nat), .slice sp i sc] rfl rfl 25 _ hres8 infoBr rfl (by simp [Value.oneCell']) ?_; intro w9 h9 o9 z9)
          | (refine wpList_loadH rfl 25 _ rfl _ rfl _ _ _ hb8 Tryd.underlying25 rfl infoBr ?_)
          | (go_at_call 17; refine HCK.out.mono ?_; rintro e w8 ⟨rfl, hB8⟩; have hb8 := below_holds hB8 hb; have hres8 := below_holds hB8 hres)
          | (refine wpList_loadH rfl 25 _ rfl _ rfl _ _ _ hb Tryd.underlying25 rfl infoBr ?_)
          | fail)
        have hown9 : OwnH w9 V4.heap.size (.slice sp i sc) (hsL (r.data.toList.drop 6) i) := (hown.below0 hB8).block fun j hj => o9.block j (Nat.lt_of_lt_of_le (hblk j hj) hB8.size) (by have := hlt j hj; omega)
        have hB9 : Below w.heap.size w w9 := Only.fresh (below_new HB.out.1 (below_new hBr hB8)) o9 hgn
        refine bodyPost_ret (results_cellM rfl _ _ _ _ _ _ rfl h9 Tryd.underlying25 rfl infoBr) rfl ?_
        refine ⟨S, T, H, .slice sp i sc, hsL (r.data.toList.drop 6) i, ?_, hown9.at, hB9, ?_, ?_, ?_, ?_⟩
        · rw [HT1.out]; rfl
        · rw [HT1.out, HD.out.1]; rfl
        · rw [HT1.out, HD.out.2.1]; rfl
        · rw [HT1.out, HD.out.2.2]; rfl
        · rw [HT1.out, HLr.out]; rfl
      · have hE0 : ¬ (E : Int) = 0 := h0
        have HT1 : rdE r = false := by
          unfold rdE
          rw [HD.out.1, HD.out.2.1, HD.out.2.2]
          by_cases hq : r.size = 6 + 32 * cntM H
          · have hic : cntM H = i := by have := HSZ.out; omega
            rw [hic, hE, decide_eq_false (p := E = 0) h0]
            simp
          · rw [decide_eq_false hq]; simp
        have HP : Hid (∀ w', Below w.heap.size w w' → RdPost r w (.returned (.tuple #[.agg #[.int .u16 0, .int .u16 0, .int .u16 0, .slice none 0 0], .int .i64 10])) w') := fun w' h => RdPost.nothing HT1 h
        clear HT1 hE
        go_wp2_with (first
          | (refine wpList_storeH rfl 25 _ _ rfl g #[.int .u16 0, .int .u16 0, .int .u16 0, .slice none 0 0] rfl rfl 25 _ hres8 infoBr rfl (by simp [Value.oneCell']) ?_; intro w9 h9 o9 z9)
          | (go_at_call 17; refine HCK.out.mono ?_; rintro e w8 ⟨rfl, hB8⟩; have hres8 := below_holds hB8 hres)
          | (refine wpList_loadH rfl 25 _ rfl _ rfl _ _ _ hb Tryd.underlying25 rfl infoBr ?_)
          | fail)
        have hB9 : Below w.heap.size w w9 := Only.fresh (below_new HB.out.1 (below_new hBr hB8)) o9 hgn
        refine bodyPost_ret (results_cellM rfl _ _ _ _ _ _ rfl h9 Tryd.underlying25 rfl infoBr) rfl ?_
        show RdPost _ _ (.returned (.tuple #[.agg #[.int .u16 0, .int .u16 0, .int .u16 0, .slice none 0 0], .int .i64 10])) _
        exact HP.out _ hB9
theorem qread_any {w : World} (r : ByteArray) (hr : r.size ≤ 9223372036854775807) : Calls Tryd.prog 12 #[.string r] w fun e w' => RdPost r w e w' := by
  by_cases h : 6 ≤ r.size ∧ (r.size - 6) % 32 = 0 ∧ r.size ≤ 518
  · exact qread_ok r h
  · exact qread_bad r hr h
end Go.Proofs.YtbidoangdnmjfaaDoor
/-
  The document's Of.
-/
namespace Go.Proofs.YtbidoangdnmjfaaDoor
open Go Go.RowKit

set_option maxRecDepth 8000 in
theorem qof_any {w : World} {v : Value} {l : List Int} (hv : IntsM w v l) (hl : l.length ≤ 9223372036854775807) : Calls Tryd.prog 19 #[v] w fun e w' => e = .returned (.int .u16 (ofM l : Nat)) ∧ w' = w := by
  obtain ⟨p, c, rfl⟩ := hv.shape
  obtain ⟨n, hn⟩ : ∃ n, l.length = n := ⟨_, rfl⟩
  have HN : Hid (l.length = n) := hn
  rw [hn] at hv hl ⊢
  clear hn
  have hni : (n : Int) ≤ 9223372036854775807 := by omega
  obtain ⟨S, hS⟩ : ∃ S : Nat → Nat, ∀ k, S k = ofM (l.take k) := ⟨_, fun _ => rfl⟩
  have hSk : ∀ k x, l[k]? = some x → S (k + 1) = orN (S k) x := fun k x h => by rw [hS, hS, ofM_take h]
  have hSl : ∀ k, S k < 65536 := fun k => by rw [hS]; exact ofM_lt _
  have hS0 : S 0 = 0 := by rw [hS]; rfl
  have hSn : S n = ofM l := by rw [hS, ← HN.out, List.take_length]
  rw [← hSn]
  clear hSn hS
  go_enter Tryd.func19, Tryd.ntmps19
  go_wp2_with fail
  go_loopw [3, 4] (fun x y wr => ∃ k : Nat, y = .int .i64 (k : Nat) ∧ k ≤ n ∧ x = .int .u16 (S k : Nat) ∧ wr = w) (fun _ y _ => n - (intOf y).toNat)
  case atStart => exact ⟨0, rfl, Nat.zero_le _, by rw [hS0]; rfl, rfl⟩
  case round =>
    obtain ⟨k, rfl, hk, rfl, hww⟩ := hrel
    have hww' := hww.symm
    clear hww
    subst hww'
    by_cases hkn : k < n
    · have hki : (k : Int) < n := by omega
      have hk0 : (0 : Int) ≤ k := by omega
      obtain ⟨x, hx⟩ : ∃ x, l[k]? = some x := ⟨_, List.getElem?_eq_getElem (by have := HN.out; omega)⟩
      obtain ⟨b, o, rfl, hnn, hc⟩ := hv.at hx
      clear hnn hv
      have HT : Hid (S (k + 1) = orN (S k) x) := hSk k x hx
      have hm := hSl k
      clear hSk hSl hS0 hx
      generalize S k = m at HT hm ⊢
      by_cases h0 : 0 ≤ x
      · by_cases h16 : x < 16
        · obtain ⟨q, rfl⟩ := Int.eq_ofNat_of_zero_le h0
          have hq : q < 16 := by omega
          have hqi : (q : Int) < 16 := by omega
          have hor := or_pow hm hq
          clear h16 h0
          go_wp2_with fail
          go_roundw
          case rel => exact ⟨k + 1, by go_num, by omega, by rw [HT.out, ← hor]; simp [wrap_u16], trivial⟩
          case measure => simp [intOf]; omega
        · have h16' : ¬ x < 16 := h16
          have HT2 : Hid (S (k + 1) = m) := by
            show S (k + 1) = m
            rw [HT.out]; unfold orN; rw [if_neg (by omega)]
          go_wp2_with fail
          go_roundw
          case rel => exact ⟨k + 1, by go_num, by omega, by rw [HT2.out], trivial⟩
          case measure => simp [intOf]; omega
      · have h0' : ¬ 0 ≤ x := h0
        have HT2 : Hid (S (k + 1) = m) := by
          show S (k + 1) = m
          rw [HT.out]; unfold orN; rw [if_neg (by omega)]
        go_wp2_with fail
        go_roundw
        case rel => exact ⟨k + 1, by go_num, by omega, by rw [HT2.out], trivial⟩
        case measure => simp [intOf]; omega
    · have hki : ¬ (k : Int) < n := by omega
      obtain rfl : k = n := by omega
      go_wp2_with fail
      go_ret
      exact ⟨rfl, rfl⟩
end Go.Proofs.YtbidoangdnmjfaaDoor
