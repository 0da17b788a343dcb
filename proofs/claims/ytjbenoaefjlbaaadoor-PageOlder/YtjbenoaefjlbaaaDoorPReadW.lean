/-
  What the calls of ReadMeta and of its closure do.
-/
import Derived.Test.YtjbenoaefjlbaaaDoorPMetaW
import Derived.Laws.EntriesVeiled
import Derived.Laws.ResultCell
namespace Go.Proofs.YtjbenoaefjlbaaaDoor
open Go Go.RowKit

theorem or_two64 (x y : Nat) (hx : x < 72057594037927936) (hy : y < 256) : bits .or .u64 ((x : Int) * 256) (y : Int) = ((x * 256 + y : Nat) : Int) := by
  have e3 := Nat.two_pow_add_eq_or_of_lt (i := 8) (b := y) (by omega) x
  have e4 : (BitVec.ofInt 64 ((x : Int) * 256)).toNat = 2 ^ 8 * x := by rw [BitVec.toNat_ofInt]; omega
  have e5 : (BitVec.ofInt 64 (y : Int)).toNat = y := by rw [BitVec.toNat_ofInt]; omega
  show IntKind.u64.wrap (((BitVec.ofInt 64 ((x : Int) * 256)) ||| (BitVec.ofInt 64 (y : Int))).toNat : Nat) = _
  rw [BitVec.toNat_or, e4, e5, ← e3, IntKind.wrap_u64]
  omega
theorem extract_get (B : ByteArray) (o i : Nat) (h : o + i < B.size) (h2 : i < (B.extract o B.size).size) : (B.extract o B.size)[i] = B.data.toList.getD (o + i) 0 := by
  rw [getD_get _ i h2, extract_toList, List.getD_eq_getElem?_getD, List.getD_eq_getElem?_getD, List.getElem?_take, List.getElem?_drop, if_pos (by omega)]
set_option maxRecDepth 4000 in
set_option maxHeartbeats 1000000 in
theorem next_any (B : ByteArray) (o a b : Nat) (r : Bool) (w : World) (ho : o + 8 ≤ B.size) (hs : B.size ≤ 2000) (ha : Holds w a 9 #[.string (B.extract o B.size)]) (hb : Holds w b 4 #[.bool r]) :
    Calls Tryd.prog 27 #[.pointer (some ⟨a, 0, none⟩), .pointer (some ⟨b, 0, none⟩)] w fun e w' => e = .returned (.int .i64 (IntKind.i64.wrap (numAt B.data.toList o : Nat))) ∧
      w' = (w.setCell ⟨a, 0, none⟩ (.string (B.extract (o + 8) B.size))).setCell ⟨b, 0, none⟩ (.bool (r && decide (numAt B.data.toList o < 9223372036854775808))) := by
  obtain ⟨S, hS⟩ : ∃ S, S = B.extract o B.size := ⟨_, rfl⟩
  have hSs : S.size = B.size - o := by rw [hS, ByteArray.size_extract]; omega
  have hSe : S.extract 8 S.size = B.extract (o + 8) B.size := by
    apply bytes_ext
    rw [extract_toList, hSs, hS, extract_toList, extract_toList, List.drop_take, List.drop_drop, List.take_take]
    congr 1
    omega
  have HS : Hid (S = B.extract o B.size) := hS
  rw [← hS] at ha
  rw [← hSe]
  have ca : w.cell? ⟨a, 0, none⟩ = some (.string S) := ha.cell 0
  have cb : w.cell? ⟨b, 0, none⟩ = some (.bool r) := hb.cell 0
  have fa : w.frozen? ⟨a, 0, none⟩ = false := ha.frozen 0
  have fb : w.frozen? ⟨b, 0, none⟩ = false := hb.frozen 0
  have hne : a ≠ b := fun q => by
    subst q
    unfold Holds at ha hb
    rw [ha] at hb
    injection hb with hb
    injection hb with hb _
    simp at hb
  have hN := upTo_lt B.data.toList o 8
  have hN' : numAt B.data.toList o < 18446744073709551616 := hN
  clear hS hN
  go_enter Tryd.func27, Tryd.ntmps27
  go_wp2_with fail
  go_loopw [3, 5] (fun nv zv wr => ∃ k : Nat, k ≤ 8 ∧ zv = .int .i64 (k : Nat) ∧ nv = .int .u64 (upTo B.data.toList o k : Nat) ∧ wr = w) (fun _ zv _ => 8 - (intOf zv).toNat)
  case atStart => exact ⟨0, by omega, rfl, rfl, rfl⟩
  case round =>
    obtain ⟨k, hk, rfl, hn, rfl⟩ := hrel
    obtain ⟨x, hx⟩ : ∃ x, x = upTo B.data.toList o k := ⟨_, rfl⟩
    rw [← hx] at hn
    have HX : Hid (x = upTo B.data.toList o k) := hx
    subst hn
    by_cases hlt : k < 8
    · have hki : (k : Int) < 8 := by omega
      have hx2 : x < 72057594037927936 := by
        have h1 := upTo_lt B.data.toList o k
        have h2 : 256 ^ k ≤ 256 ^ 7 := Nat.pow_le_pow_right (by omega) (by omega)
        rw [hx]
        exact Nat.lt_of_lt_of_le h1 h2
      have hkS : k < S.size := by omega
      have hkSi : (k : Int) < S.size := by omega
      have hby : S[k] = B.data.toList.getD (o + k) 0 := by
        have := extract_get B o k (by omega) (by rw [ByteArray.size_extract]; omega)
        have e := HS.out
        subst e
        exact this
      obtain ⟨y, hy⟩ : ∃ y : Nat, y = S[k].toNat := ⟨_, rfl⟩
      have hyl : y < 256 := by rw [hy]; exact S[k].toNat_lt
      have HY : Hid (upTo B.data.toList o (k + 1) = x * 256 + y) := by unfold Hid; rw [upTo, ← hby, hy, hx]
      have hor := or_two64 x y hx2 hyl
      rw [hy] at hor
      have hw1 : IntKind.u64.wrap ((x : Int) * 256) = (x : Int) * 256 := by rw [IntKind.wrap_u64]; omega
      clear hx hby
      go_wp2_with fail
      refine ⟨⟨k + 1, by omega, by go_num, ?_, trivial⟩, by simp [intOf]; omega⟩
      rw [HY.out, hy]
      simp
    · have hki : ¬ (k : Int) < 8 := by omega
      obtain rfl : k = 8 := by omega
      have hxn : Hid (numAt B.data.toList o = x) := HX.out.symm
      have h8 : (8 : Int) ≤ S.size := by omega
      have hx64 : x < 18446744073709551616 := by rw [hx]; exact hN'
      clear hx hSs hN' hSe HX hlt hki hk
      by_cases hm : x < 9223372036854775808
      · have hmi : (x : Int) ≤ 9223372036854775807 := by omega
        have hw : Hid (IntKind.i64.wrap (x : Int) = (x : Int)) := by unfold Hid; rw [IntKind.wrap_i64]; omega
        cases r
        · go_wp2_with fail
          go_ret
          rw [hxn.out, hw.out]
          exact ⟨rfl, rfl⟩
        · go_wp2_with fail
          go_ret
          rw [hxn.out, hw.out]
          refine ⟨rfl, ?_⟩
          rw [decide_eq_true hm]
          try rfl
      · have hmi : ¬ (x : Int) ≤ 9223372036854775807 := by omega
        have hw : Hid (IntKind.i64.wrap (x : Int) = wrap64 (x : Int)) := by unfold Hid; rw [IntKind.wrap_i64]; unfold wrap64; rfl
        cases r
        · go_wp2_with fail
          go_ret
          rw [hxn.out, hw.out]
          exact ⟨rfl, rfl⟩
        · go_wp2_with fail
          go_ret
          rw [hxn.out, hw.out]
          refine ⟨rfl, ?_⟩
          rw [decide_eq_false hm]
          try rfl
def m4A (m : M4) : Array Value := #[.int .i64 m.tx, .int .i64 m.root, .int .i64 m.ents, .int .i64 m.pgs]
def zeroM : M4 := ⟨0, 0, 0, 0⟩
/-- What ReadMeta tells. -/
def readM (p : ByteArray) : Value := .agg (m4A ((readS p).getD zeroM))
def readE (p : ByteArray) : Value := .int .i64 (match readS p with | none => 17 | some _ => 0)
theorem read_no {p : ByteArray} (h : readS p = none) : readM p = .agg #[.int .i64 0, .int .i64 0, .int .i64 0, .int .i64 0] ∧ readE p = .int .i64 17 := by
  unfold readM readE
  rw [h]
  exact ⟨rfl, rfl⟩
theorem read_yes {p : ByteArray} {m : M4} (h : readS p = some m) : readM p = .agg (m4A m) ∧ readE p = .int .i64 0 := by
  unfold readM readE
  rw [h]
  exact ⟨rfl, rfl⟩
theorem results_two {P : Program} {fn : Func} {p u : Tmp} {ty : TypeId} (h : fn.results = #[.cell p ty, .tmp u]) (tmps : Array Value) (w : World) (b : Nat) (t : TypeId) (cs : Array Value) (d : TypeDesc)
    (hp : tmps.getD p undef = .pointer (some ⟨b, 0, none⟩)) (hh : Holds w b t cs)
    (hu : P.underlying ty = some d) (hd : d.isRow = true) (hi : (P.info? ty).map (·.size) = some cs.size) : (results fn tmps).run P w = .ok (.tuple #[.agg cs, tmps.getD u undef]) w := by
  have hr := run_loadVar_row w b t ty cs (0, 0) d hh hu (by cases d <;> simp_all) hi
  rw [results_cell_tmp h, hp]
  simp [asAddr, hr]
theorem infoMeta : (Tryd.prog.info? 30).map (·.size) = some 4 := by kernel_rfl
theorem m4A_one (m : M4) : (m4A m).all (·.oneCell') = true := by simp [m4A, Value.oneCell']
theorem zeroMeta : ∀ w, (zeroValue 30).run Tryd.prog w = .ok (.agg #[.int .i64 0, .int .i64 0, .int .i64 0, .int .i64 0]) w := (zero_of_info (n := 4) (by kernel_rfl)).1
/-- The closure's cells, beside the result's. -/
structure Nx (w0 : World) (g a b : Nat) (B : ByteArray) (o : Nat) (r : Bool) (w : World) : Prop where
  rest : Holds w a 9 #[.string (B.extract o B.size)]
  right : Holds w b 4 #[.bool r]
  res : Holds w g 30 (m4A zeroM)
  below : Below w0.heap.size w0 w
  new : w0.heap.size ≤ a ∧ w0.heap.size ≤ b
  ne : a ≠ b ∧ g ≠ a ∧ g ≠ b
theorem nx_step {w0 : World} {g a b : Nat} {B : ByteArray} {o : Nat} {r : Bool} {w : World} (h : Nx w0 g a b B o r w) (ho : o + 8 ≤ B.size) (hs : B.size ≤ 2000) :
    Calls Tryd.prog 27 #[.pointer (some ⟨a, 0, none⟩), .pointer (some ⟨b, 0, none⟩)] w fun e w' => e = .returned (.int .i64 (IntKind.i64.wrap (numAt B.data.toList o : Nat))) ∧
      Nx w0 g a b B (o + 8) (r && decide (numAt B.data.toList o < 9223372036854775808)) w' ∧ w'.heap.size = w.heap.size := by
  refine (next_any B o a b r w ho hs h.rest h.right).mono ?_
  rintro e w' ⟨rfl, rfl⟩
  obtain ⟨n1, n2⟩ := h.new
  obtain ⟨d1, d2, d3⟩ := h.ne
  refine ⟨rfl, ⟨((h.rest.set 0 _).other ⟨b, 0, none⟩ _ d1), (h.right.other ⟨a, 0, none⟩ _ (fun q => d1 q.symm)).set 0 _, (h.res.other ⟨a, 0, none⟩ _ d2).other ⟨b, 0, none⟩ _ d3, ?_, h.new, h.ne⟩, ?_⟩
  · exact Only.fresh (Only.fresh h.below ((Only.refl a w).set 0 _) n1) ((Only.refl b _).set 0 _) n2
  · rw [World.size_setCell, World.size_setCell]
set_option maxRecDepth 8000 in
set_option maxHeartbeats 4000000 in
theorem read_any (p : ByteArray) (w : World) (hT : Tabs w) (hp : p.size ≤ 9223372036854775807) :
    Calls Tryd.prog 15 #[.string p] w fun e w' => e = .returned (.tuple #[readM p, readE p]) ∧ Below w.heap.size w w' := by
  have hz := zeroMeta
  go_enter Tryd.func15, Tryd.ntmps15
  go_wp2_with fail
  refine (open_any p _ (hT.below ((Below.refl _ _).alloc (Nat.le_refl _) _)) hp).mono ?_
  rintro e w1 ⟨rfl, hB1⟩
  have hB : Below w.heap.size w w1 := ((Below.refl _ _).alloc (Nat.le_refl _) _).trans (hB1.mono (by rw [World.size_alloc]; omega))
  have hr : Holds w1 w.heap.size 30 (m4A zeroM) := Below.holds hB1 (Holds.new w 30 #[.int .i64 0, .int .i64 0, .int .i64 0, .int .i64 0])
  obtain ⟨g, hg⟩ : ∃ g, g = w.heap.size := ⟨_, rfl⟩
  rw [← hg] at hr ⊢
  have HG : Hid (g = w.heap.size) := hg
  have hgl : w.heap.size ≤ g := by omega
  have hgl1 : g < w1.heap.size := hr.lt
  clear hg hB1
  have HB : Hid (Below w.heap.size w w1) := hB
  have HGL : Hid (w.heap.size ≤ g) := hgl
  have HGL1 : Hid (g < w1.heap.size) := hgl1
  clear hB hgl hgl1
  cases ho : openS p with
  | none =>
    obtain ⟨e1, e2, e3⟩ := open_no ho
    obtain ⟨r1, r2⟩ := read_no (readS_none ho)
    rw [e1, e2, e3]
    have R : Hid (readM p = _ ∧ readE p = _) := ⟨r1, r2⟩
    clear e1 e2 e3 r1 r2
    go_wp2_with (first
      | (refine wpList_storeH rfl 30 _ _ rfl g (m4A zeroM) rfl rfl 30 _ (hr.alloc _) infoMeta rfl (m4A_one _) ?_
         intro w3 h3 o3 z3)
      | fail)
    refine bodyPost_ret (results_two (p := 2) (u := 3) rfl _ w3 g 30 _ _ rfl h3 Tryd.underlying30 rfl infoMeta) rfl ⟨?_, ?_⟩
    · rw [R.out.1, R.out.2]; rfl
    · exact Only.fresh (HB.out.alloc HB.out.size _) o3 HGL.out
  | some kb =>
    obtain ⟨k, b⟩ := kb
    obtain ⟨e1, e2, e3⟩ := open_yes ho
    obtain ⟨hb13, -, -⟩ := open_some ho
    rw [e1, e2, e3]
    clear e1 e2 e3
    by_cases hk : k = 77 ∧ b.size = 32
    · obtain ⟨rfl, hb⟩ := hk
      have hbi : (b.size : Int) = 32 := by omega
      rw [show oct 77 = 77 from rfl]
      go_wp2_with fail
      have nx0 : Nx w g w1.heap.size (w1.heap.size + 1) b 0 true ((w1.alloc (.cells #[.string b] 9)).alloc (.cells #[.bool true] 4)) := by
        have h1 := (Holds.new w1 9 #[.string b]).alloc (.cells #[.bool true] 4)
        have h2 := Holds.new (w1.alloc (.cells #[.string b] 9)) 4 #[.bool true]
        rw [World.size_alloc] at h2
        have hsz := HB.out.size
        have hgl := HGL1.out
        refine ⟨?_, h2, (hr.alloc _).alloc _, (HB.out.alloc hsz _).alloc (by rw [World.size_alloc]; omega) _, ⟨hsz, by omega⟩, by omega, by omega, by omega⟩
        have e : b.extract 0 b.size = b := by
          apply bytes_ext
          rw [extract_toList, List.drop_zero, Nat.sub_zero]
          exact List.take_length
        rw [e]
        exact h1
      obtain ⟨a, ha⟩ : ∃ a, a = w1.heap.size := ⟨_, rfl⟩
      rw [← ha] at nx0 ⊢
      clear ha hr
      generalize (w1.alloc (.cells #[.string b] 9)).alloc (.cells #[.bool true] 4) = W0 at nx0 ⊢
      refine (nx_step nx0 (by omega) (by omega)).mono ?_
      rintro e w2 ⟨rfl, nx1, -⟩
      obtain ⟨y0, hy0⟩ : ∃ y, y = IntKind.i64.wrap (numAt b.data.toList 0 : Nat) := ⟨_, rfl⟩
      rw [← hy0]
      have Y0 : Hid (y0 = IntKind.i64.wrap (numAt b.data.toList 0 : Nat)) := hy0
      clear hy0 nx0
      go_wp2_with fail
      refine (nx_step nx1 (by omega) (by omega)).mono ?_
      rintro e w3 ⟨rfl, nx2, -⟩
      obtain ⟨y1, hy1⟩ : ∃ y, y = IntKind.i64.wrap (numAt b.data.toList 8 : Nat) := ⟨_, rfl⟩
      rw [← hy1]
      have Y1 : Hid (y1 = IntKind.i64.wrap (numAt b.data.toList 8 : Nat)) := hy1
      clear hy1 nx1
      go_wp2_with fail
      refine (nx_step nx2 (by omega) (by omega)).mono ?_
      rintro e w4 ⟨rfl, nx3, -⟩
      obtain ⟨y2, hy2⟩ : ∃ y, y = IntKind.i64.wrap (numAt b.data.toList 16 : Nat) := ⟨_, rfl⟩
      rw [← hy2]
      have Y2 : Hid (y2 = IntKind.i64.wrap (numAt b.data.toList 16 : Nat)) := hy2
      clear hy2 nx2
      go_wp2_with fail
      refine (nx_step nx3 (by omega) (by omega)).mono ?_
      rintro e w5 ⟨rfl, nx4, -⟩
      obtain ⟨y3, hy3⟩ : ∃ y, y = IntKind.i64.wrap (numAt b.data.toList 24 : Nat) := ⟨_, rfl⟩
      rw [← hy3]
      have Y3 : Hid (y3 = IntKind.i64.wrap (numAt b.data.toList 24 : Nat)) := hy3
      clear hy3 nx3
      have hN := Holds.new w5 30 #[.int .i64 0, .int .i64 0, .int .i64 0, .int .i64 0]
      have hsm : (m4At b.data.toList).small ↔ (true && decide (numAt b.data.toList 0 < 9223372036854775808) && decide (numAt b.data.toList (0 + 8) < 9223372036854775808) && decide (numAt b.data.toList (0 + 8 + 8) < 9223372036854775808) && decide (numAt b.data.toList (0 + 8 + 8 + 8) < 9223372036854775808)) = true := by
        simp only [Bool.and_eq_true, decide_eq_true_eq]
        unfold m4At M4.small
        dsimp only
        constructor
        · rintro ⟨h1, h2, h3, h4⟩; exact ⟨⟨⟨⟨trivial, h1⟩, h2⟩, h3⟩, h4⟩
        · rintro ⟨⟨⟨⟨_, h1⟩, h2⟩, h3⟩, h4⟩; exact ⟨h1, h2, h3, h4⟩
      obtain ⟨R, hR⟩ : ∃ R, R = (true && decide (numAt b.data.toList 0 < 9223372036854775808) && decide (numAt b.data.toList (0 + 8) < 9223372036854775808) && decide (numAt b.data.toList (0 + 8 + 8) < 9223372036854775808) && decide (numAt b.data.toList (0 + 8 + 8 + 8) < 9223372036854775808)) := ⟨_, rfl⟩
      rw [← hR] at hsm nx4
      clear hR
      have HSM : Hid ((m4At b.data.toList).small ↔ R = true) := hsm
      clear hsm hz
      obtain ⟨q, hq⟩ : ∃ q, q = w5.heap.size := ⟨_, rfl⟩
      have hone : (#[.int .i64 y0, .int .i64 y1, .int .i64 y2, .int .i64 y3] : Array Value).all (·.oneCell') = true := by simp [Value.oneCell']
      have hz := zeroMeta
      have HQ : Hid (q = w5.heap.size) := hq
      have hqa : a + 1 < q := by rw [hq]; exact nx4.right.lt
      have hqg : g < q := by rw [hq]; exact nx4.res.lt
      rw [← hq] at hN
      clear hq
      cases R
      · have hns := readS_no ho fun q => by have := HSM.out.1 q.2.2; cases this
        have RR : Hid (readM p = _ ∧ readE p = _) := read_no hns
        go_wp2_with (first
          | (refine wpList_storeH rfl 30 _ _ rfl w5.heap.size #[.int .i64 y0, .int .i64 y1, .int .i64 y2, .int .i64 y3] rfl rfl 30 #[.int .i64 0, .int .i64 0, .int .i64 0, .int .i64 0] (Holds.new w5 _ _) infoMeta rfl hone ?_
             intro w6 h6 o6 z6
             have hB6 : Below w.heap.size w w6 := Only.fresh (nx4.below.alloc nx4.below.size _) o6 nx4.below.size
             have cR : w6.cell? ⟨a + 1, 0, none⟩ = some (.bool false) := (o6.holds (nx4.right.alloc _) (by have := HQ.out; omega)).cell 0
             have hr6 := o6.holds (nx4.res.alloc (.cells #[.int .i64 0, .int .i64 0, .int .i64 0, .int .i64 0] 30)) (by have := HQ.out; omega))
          | (refine wpList_storeH rfl 30 _ _ rfl g (m4A zeroM) rfl rfl 30 _ hr6 infoMeta rfl (m4A_one _) ?_
             intro w7 h7 o7 z7)
          | fail)
        refine bodyPost_ret (results_two (p := 2) (u := 3) rfl _ w7 g 30 _ _ rfl h7 Tryd.underlying30 rfl infoMeta) rfl ⟨?_, ?_⟩
        · rw [RR.out.1, RR.out.2]; rfl
        · exact Only.fresh hB6 o7 HGL.out
      · have hsm := HSM.out.2 rfl
        have RR : Hid (readM p = _ ∧ readE p = _) := read_yes (readS_of ho rfl hb hsm)
        have e4 : Hid ((#[.int .i64 y0, .int .i64 y1, .int .i64 y2, .int .i64 y3] : Array Value) = m4A (m4At b.data.toList)) := by
          obtain ⟨s1, s2, s3, s4⟩ := hsm
          have wr : ∀ x : Nat, x < 9223372036854775808 → IntKind.i64.wrap (x : Int) = (x : Int) := fun x hx => by rw [IntKind.wrap_i64]; omega
          unfold Hid m4A
          rw [Y0.out, Y1.out, Y2.out, Y3.out, wr (numAt b.data.toList 0) s1, wr (numAt b.data.toList 8) s2, wr (numAt b.data.toList 16) s3, wr (numAt b.data.toList 24) s4]
          rfl
        clear hsm
        go_wp2_with (first
          | (refine wpList_storeH rfl 30 _ _ rfl w5.heap.size #[.int .i64 y0, .int .i64 y1, .int .i64 y2, .int .i64 y3] rfl rfl 30 #[.int .i64 0, .int .i64 0, .int .i64 0, .int .i64 0] (Holds.new w5 _ _) infoMeta rfl hone ?_
             intro w6 h6 o6 z6
             have hB6 : Below w.heap.size w w6 := Only.fresh (nx4.below.alloc nx4.below.size _) o6 nx4.below.size
             have cR : w6.cell? ⟨a + 1, 0, none⟩ = some (.bool true) := (o6.holds (nx4.right.alloc _) (by have := HQ.out; omega)).cell 0
             have hr6 := o6.holds (nx4.res.alloc (.cells #[.int .i64 0, .int .i64 0, .int .i64 0, .int .i64 0] 30)) (by have := HQ.out; omega))
          | (refine wpList_loadG rfl 30 (.tmp 9) rfl w5.heap.size rfl 30 _ _ h6 Tryd.underlying30 rfl infoMeta ?_)
          | (refine wpList_storeH rfl 30 _ _ rfl g #[.int .i64 y0, .int .i64 y1, .int .i64 y2, .int .i64 y3] rfl rfl 30 _ hr6 infoMeta rfl hone ?_
             intro w7 h7 o7 z7)
          | fail)
        refine bodyPost_ret (results_two (p := 2) (u := 3) rfl _ w7 g 30 _ _ rfl h7 Tryd.underlying30 rfl infoMeta) rfl ⟨?_, ?_⟩
        · rw [RR.out.1, RR.out.2, ← e4.out]; rfl
        · exact Only.fresh hB6 o7 HGL.out
    · have R : Hid (readM p = _ ∧ readE p = _) := read_no (readS_no ho fun q => hk ⟨q.1, q.2.1⟩)
      by_cases hk7 : k = 77
      · subst hk7
        have hb : ¬ (b.size : Int) = 32 := fun q => hk ⟨rfl, by omega⟩
        clear hk
        rw [show oct 77 = 77 from rfl]
        go_wp2_with (first
          | (refine wpList_storeH rfl 30 _ _ rfl g (m4A zeroM) rfl rfl 30 _ (hr.alloc _) infoMeta rfl (m4A_one _) ?_
             intro w3 h3 o3 z3)
          | fail)
        refine bodyPost_ret (results_two (p := 2) (u := 3) rfl _ w3 g 30 _ _ rfl h3 Tryd.underlying30 rfl infoMeta) rfl ⟨?_, ?_⟩
        · rw [R.out.1, R.out.2]; rfl
        · exact Only.fresh (HB.out.alloc HB.out.size _) o3 HGL.out
      · have hk7i : ¬ oct k = 77 := fun q => hk7 (oct_inj q)
        clear hk
        go_wp2_with (first
          | (refine wpList_storeH rfl 30 _ _ rfl g (m4A zeroM) rfl rfl 30 _ (hr.alloc _) infoMeta rfl (m4A_one _) ?_
             intro w3 h3 o3 z3)
          | fail)
        refine bodyPost_ret (results_two (p := 2) (u := 3) rfl _ w3 g 30 _ _ rfl h3 Tryd.underlying30 rfl infoMeta) rfl ⟨?_, ?_⟩
        · rw [R.out.1, R.out.2]; rfl
        · exact Only.fresh (HB.out.alloc HB.out.size _) o3 HGL.out
end Go.Proofs.YtjbenoaefjlbaaaDoor
