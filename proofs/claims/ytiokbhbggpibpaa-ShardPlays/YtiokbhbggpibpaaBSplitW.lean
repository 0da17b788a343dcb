/-
  What split does.
-/
import Derived.Test.YtiokbhbggpibpaaBReadL
import Derived.Test.YtiokbhbggpibpaaBGI
import Derived.Test.YtiokbhbggpibpaaBGF
import Derived.Test.YtiokbhbggpibpaaBPerm
namespace Go.Proofs.Ytiokbhbggpibpaa
open Go Go.RowKit Go.Maps

theorem numsB_extract (x : ByteArray) (a b : Nat) : numsB (x.extract a b) = ((numsB x).drop a).take (b - a) := by
  unfold numsB
  rw [ByteArray.data_extract, Array.toList_extract]
  simp [List.map_take, List.map_drop, List.extract_eq_take_drop]

/-- How many bytes stand behind the head of so many members. -/
def kindSz (m : Nat) : Nat := if m ≤ 32 then m else 32
/-- The container that has these bits. -/
def bitsP (l : List Nat) : Nat → Bool := ofBytes fun i => l[i]?.getD 0
/-- These bytes begin with this container; behind it stand these. -/
structure SplitOk (l : List Nat) (u : Nat) (p : Nat → Bool) (r : List Nat) : Prop where
  len : 4 ≤ l.length
  upper : u = l[0]?.getD 0 * 65536 + l[1]?.getD 0 * 256 + l[2]?.getD 0
  low : u < NU
  size : 4 + kindSz (l[3]?.getD 0 + 1) ≤ l.length
  rest : r = l.drop (4 + kindSz (l[3]?.getD 0 + 1))
  list : l[3]?.getD 0 + 1 ≤ 32 → Rises ((l.drop 4).take (l[3]?.getD 0 + 1)) ∧ contA p = contA (ofList ((l.drop 4).take (l[3]?.getD 0 + 1)))
  bits : 32 < l[3]?.getD 0 + 1 → contA p = contA (bitsP ((l.drop 4).take 32)) ∧ cnt p = l[3]?.getD 0 + 1
def splitV (l : List Nat) (v : Value) : Prop :=
  (∃ u p r, SplitOk l u p (numsB r) ∧ v = .tuple #[.agg (partA u (contA p)), .string r, .bool true]) ∨
  ((∀ u p r, ¬ SplitOk l u p r) ∧ ∃ u p r, u < 16777216 ∧ v = .tuple #[.agg (partA u (contA p)), .string r, .bool false])
/-- What reads a container's bits. -/
def bitsV (l : List Nat) (m : Nat) (v : Value) : Prop := v = .tuple #[.agg (contA (bitsP l)), .bool (decide (cnt (bitsP l) = m))]
def ReadsBits : Prop := ∀ (x : ByteArray) (m b : Nat) (w : World), x.size = 32 → Holds w b 3 #[.int .i64 (m : Nat)] → m ≤ 256 →
  Calls Try.prog 72 #[.string x, .pointer (some ⟨b, 0, none⟩)] w fun e w' => ∃ v, e = .returned v ∧ bitsV (numsB x) m v ∧ Below w.heap.size w w'

theorem results_partT {fn : Func} {p u t : Tmp} (h : fn.results = #[.cell p 80, .tmp u, .tmp t]) (tmps : Array Value) (w : World) (b : Nat) (ty : TypeId) (n : Nat) (cs : Array Value) (v z : Value) (hc : IsC cs)
    (hp : tmps.getD p undef = .pointer (some ⟨b, 0, none⟩)) (hv : tmps.getD u undef = v) (hz : tmps.getD t undef = z) (hh : Holds w b ty (partA n cs)) : (results fn tmps).run Try.prog w = .ok (.tuple #[.agg (partA n cs), v, z]) w := by
  have hr := run_loadVar_row (P := Try.prog) w b ty 80 (partA n cs) (0, 0) _ hh Try.underlying80 rfl (info76 hc)
  have e : (results fn tmps).run Try.prog w = ((asAddr (tmps.getD p undef)).run Try.prog w).andThen fun a w₁ => ((loadVar 80 a).run Try.prog w₁).andThen fun x w₂ => .ok (.tuple #[x, tmps.getD u undef, tmps.getD t undef]) w₂ := by
    simp only [results, h]
    simp [Sem.run_bind, Result.andThen]
  rw [e, hp, hv, hz]
  simp [asAddr, hr]

theorem kind_list {m : Nat} {v : Value} {w w' : World} (h : kindV m v w w') (hm : m ≤ 32) : v = .tuple #[.func (.func 69) #[] #[], .func (.func 70) #[] #[], .int .i64 (m : Nat)] := by
  rcases h with ⟨_, h⟩ | ⟨h, _⟩
  · exact h
  · omega
theorem kind_bits {m : Nat} {v : Value} {w w' : World} (h : kindV m v w w') (hm : ¬ m ≤ 32) : ∃ b, v = .tuple #[.func (.func 71) #[] #[], .func (.func 72) #[] #[.pointer (some ⟨b, 0, none⟩)], .int .i64 32] ∧ w.heap.size ≤ b ∧ Holds w' b 3 #[.int .i64 (m : Nat)] := by
  rcases h with ⟨h, _⟩ | ⟨_, h⟩
  · exact absurd h hm
  · exact h
theorem listV.shape {l : List Nat} {v : Value} (h : listV l v) : ∃ q ok, v = .tuple #[.agg (contA q), .bool ok] ∧ (ok = true → Rises l ∧ contA q = contA (ofList l)) ∧ (ok = false → ¬ Rises l) := by
  rcases h with ⟨h1, h2⟩ | ⟨h1, h2⟩
  · exact ⟨_, _, h2, fun _ => ⟨h1, rfl⟩, fun e => absurd e (by decide)⟩
  · exact ⟨_, _, h2, fun e => absurd e (by decide), fun _ => h1⟩
theorem bitsV.shape {l : List Nat} {m : Nat} {v : Value} (h : bitsV l m v) : ∃ q ok, v = .tuple #[.agg (contA q), .bool ok] ∧ (ok = true → cnt q = m ∧ contA q = contA (bitsP l)) ∧ (ok = false → cnt (bitsP l) ≠ m) :=
  ⟨_, _, h, fun e => ⟨by simpa using e, rfl⟩, fun e => by simpa using e⟩
theorem cnt_congr {p q : Nat → Bool} (h : ∀ l, l < 256 → p l = q l) : cnt p = cnt q := by
  unfold cnt
  exact List.countP_congr fun l hl => by rw [h l (List.mem_range.1 hl)]
theorem cnt_of_cont {p q : Nat → Bool} (h : contA p = contA q) : cnt p = cnt q := cnt_congr (contA_inj h)
theorem get_of (x : ByteArray) (i : Nat) (h : i < x.size) : (numsB x)[i]?.getD 0 = (x[i]).toNat := by rw [numsB_get x i h]; rfl

theorem or_nat (a b i : Nat) (hb : b < 2 ^ i) (ha : a * 2 ^ i + b < 9223372036854775808) : bits BinOp.or IntKind.i64 ((a * 2 ^ i : Nat) : Int) (b : Int) = ((a * 2 ^ i + b : Nat) : Int) := by
  have h := (bits_nat .i64 63 (by decide) (fun n h0 h1 => by rw [IntKind.wrap_i64]; omega) (a * 2 ^ i) b (by omega) (by omega)).2
  rw [h, ← Nat.shiftLeft_eq, Nat.shiftLeft_add_eq_or_of_lt hb]

set_option maxRecDepth 100000 in
set_option maxHeartbeats 2000000 in
theorem split_any (x : ByteArray) (hbits : 32 < (numsB x)[3]?.getD 0 + 1 → ReadsBits) (w : World) (hx : x.size ≤ 2147483648) : Calls Try.prog 48 #[.string x] w fun e w' => ∃ v, e = .returned v ∧ splitV (numsB x) v ∧ Below w.heap.size w w' := by
  obtain ⟨W0, hW⟩ : ∃ W0, World.alloc w (.cells zero33 80) = W0 := ⟨_, rfl⟩
  have h1 : Holds W0 w.heap.size 80 zero33 := by rw [← hW]; exact Holds.new _ _ _
  have hB : Below w.heap.size w W0 := by rw [← hW]; exact below_new1 _ _
  rw [zero33_eq] at hW
  have hZ := IsC.mk fun _ => false
  by_cases h4 : x.size < 4
  · have h4i : (x.size : Int) < 4 := by omega
    go_enter Try.func48, Try.ntmps48
    go_wp2_with (first
      | (refine wpList_stP (u := 0) (cs := contA fun _ => false) rfl _ _ rfl rfl (by rw [zeroC]; rfl) hZ h1 rfl ?_; intro W2 h2 hO2 hs2))
    refine bodyPost_ret (results_partT rfl _ _ _ _ _ _ _ _ hZ rfl rfl rfl h2) rfl ?_
    refine ⟨_, rfl, .inr ⟨fun u p r h => ?_, _, _, _, by decide, rfl⟩, Only.fresh hB hO2 (Nat.le_refl _)⟩
    have := h.len
    rw [numsB_len] at this
    omega
  · have h4i : ¬ (x.size : Int) < 4 := by omega
    have l0 : (0 : Int) < x.size := by omega
    have l1 : (1 : Int) < x.size := by omega
    have l2 : (2 : Int) < x.size := by omega
    have l3 : (3 : Int) < x.size := by omega
    have n0 : 0 < x.size := by omega
    have n1 : 1 < x.size := by omega
    have n2 : 2 < x.size := by omega
    have n3 : 3 < x.size := by omega
    have g0 := get_of x 0 n0
    have g1 := get_of x 1 n1
    have g2 := get_of x 2 n2
    have g3 := get_of x 3 n3
    have b0 := (x[0]).toNat_lt
    have b1 := (x[1]).toNat_lt
    have b2 := (x[2]).toNat_lt
    have b3 := (x[3]).toNat_lt
    obtain ⟨a0, e0⟩ : ∃ a, (x[0]).toNat = a := ⟨_, rfl⟩
    obtain ⟨a1, e1⟩ : ∃ a, (x[1]).toNat = a := ⟨_, rfl⟩
    obtain ⟨a2, e2⟩ : ∃ a, (x[2]).toNat = a := ⟨_, rfl⟩
    obtain ⟨a3, e3⟩ : ∃ a, (x[3]).toNat = a := ⟨_, rfl⟩
    rw [e0] at g0 b0
    rw [e1] at g1 b1
    rw [e2] at g2 b2
    rw [e3] at g3 b3
    have v0 : IntKind.i64.wrap (a0 : Int) = a0 := by rw [IntKind.wrap_i64]; omega
    have v1 : IntKind.i64.wrap (a1 : Int) = a1 := by rw [IntKind.wrap_i64]; omega
    have v2 : IntKind.i64.wrap (a2 : Int) = a2 := by rw [IntKind.wrap_i64]; omega
    have v3 : IntKind.i64.wrap (a3 : Int) = a3 := by rw [IntKind.wrap_i64]; omega
    obtain ⟨c0, hc0⟩ : ∃ c, a0 * 65536 = c := ⟨_, rfl⟩
    obtain ⟨c1, hc1⟩ : ∃ c, a1 * 256 = c := ⟨_, rfl⟩
    obtain ⟨t, ht⟩ : ∃ t, a0 * 65536 + a1 * 256 = t := ⟨_, rfl⟩
    obtain ⟨u, hu⟩ : ∃ u, t + a2 = u := ⟨_, rfl⟩
    obtain ⟨m, hm⟩ : ∃ m, a3 + 1 = m := ⟨_, rfl⟩
    have v4 : IntKind.i64.wrap ((a0 : Int) * 65536) = c0 := by rw [IntKind.wrap_i64]; omega
    have v5 : IntKind.i64.wrap ((a1 : Int) * 256) = c1 := by rw [IntKind.wrap_i64]; omega
    have v6 : IntKind.i64.wrap ((a3 : Int) + 1) = m := by rw [IntKind.wrap_i64]; omega
    have v7 : bits BinOp.or IntKind.i64 (c0 : Int) (c1 : Int) = t := by
      have := or_nat a0 c1 16 (by omega) (by omega)
      rw [← ht, ← hc0, hc1]; exact this
    have v8 : bits BinOp.or IntKind.i64 (t : Int) (a2 : Int) = u := by
      have := or_nat (a0 * 256 + a1) a2 8 (by omega) (by omega)
      rw [← hu, show t = (a0 * 256 + a1) * 2 ^ 8 by omega]; exact this
    have HU : Hid (u = (numsB x)[0]?.getD 0 * 65536 + (numsB x)[1]?.getD 0 * 256 + (numsB x)[2]?.getD 0) := by
      have : u = (numsB x)[0]?.getD 0 * 65536 + (numsB x)[1]?.getD 0 * 256 + (numsB x)[2]?.getD 0 := by rw [g0, g1, g2]; omega
      exact this
    have HM : Hid ((numsB x)[3]?.getD 0 + 1 = m) := by
      have : (numsB x)[3]?.getD 0 + 1 = m := by rw [g3]; exact hm
      exact this
    have hm1 : 1 ≤ m := by omega
    have hm2 : m ≤ 256 := by omega
    have hu2 : u < 16777216 := by omega
    have hki := fun W => kind_any m W hm2
    clear g0 g1 g2 g3 hc0 hc1 ht hu hm
    go_enter Try.func48, Try.ntmps48
    go_wp2_with fail
    go_quiet (fail)
    have hB4' : ∀ {w4}, Below (W0.drewN nq).heap.size (W0.drewN nq) w4 → Below w.heap.size w w4 := fun h => (below_drewN hB nq).trans (h.mono hB.size)
    by_cases hm32 : m ≤ 32
    · have hkn : kindSz m = m := by unfold kindSz; rw [if_pos hm32]
      have hzz : m ≤ 256 := by omega
      by_cases hP1 : 8388607 < u
      · have hP1i : (8388607 : Int) < u := by omega
        go_wp2_with (first
          | (go_at_call 54; refine (hki _).mono ?_; rintro e w4 ⟨kv, rfl, hkv, hB4⟩; obtain rfl := kind_list hkv hm32; have hP4 := below_holds hB4 (h1.drewN nq))
          | (refine wpList_stP (u := 0) (cs := contA fun _ => false) rfl _ _ rfl rfl (by rw [zeroC]; rfl) hZ hP4 rfl ?_; intro W5 h5 hO5 hs5))
        refine bodyPost_ret (results_partT rfl _ _ _ _ _ _ _ _ hZ rfl rfl rfl h5) rfl ?_
        refine ⟨_, rfl, .inr ⟨fun u' p r h => ?_, _, _, _, by decide, rfl⟩, Only.fresh (hB4' hB4) hO5 (Nat.le_refl _)⟩
        have q1 := h.low
        have q2 := h.upper
        rw [← HU.out] at q2
        rw [NU_eq] at q1
        omega
      · have hP1i : (u : Int) ≤ 8388607 := by omega
        by_cases hP2 : x.size - 4 < m
        · go_wp2_with (first
            | (go_at_call 54; refine (hki _).mono ?_; rintro e w4 ⟨kv, rfl, hkv, hB4⟩; obtain rfl := kind_list hkv hm32; have hP4 := below_holds hB4 (h1.drewN nq))
            | (refine wpList_stP (u := 0) (cs := contA fun _ => false) rfl _ _ rfl rfl (by rw [zeroC]; rfl) hZ hP4 rfl ?_; intro W5 h5 hO5 hs5))
          refine bodyPost_ret (results_partT rfl _ _ _ _ _ _ _ _ hZ rfl rfl rfl h5) rfl ?_
          refine ⟨_, rfl, .inr ⟨fun u' p r h => ?_, _, _, _, by decide, rfl⟩, Only.fresh (hB4' hB4) hO5 (Nat.le_refl _)⟩
          have q1 := h.size
          rw [HM.out, hkn, numsB_len] at q1
          omega
        · have hP2n : m ≤ x.size - 4 := by omega
          have hP2i : ((m : Int) : Int) ≤ ((x.size - 4 : Nat) : Int) := by omega
          go_wp2_with (first
            | (go_at_call 54; refine (hki _).mono ?_; rintro e w4 ⟨kv, rfl, hkv, hB4⟩; obtain rfl := kind_list hkv hm32; have hP4 := below_holds hB4 (h1.drewN nq)))
          have hrd := readL_any ((x.extract 4 x.size).extract 0 m) w4 (by simp; omega)
          refine hrd.mono ?_
          rintro e w5 ⟨rv, rfl, hrv, hB5⟩
          obtain ⟨q, ok, rfl, hq1, hq2⟩ := hrv.shape
          have hC := IsC.mk q
          generalize hcs : contA q = cs at hC hq1 ⊢
          have HC : Hid (contA q = cs) := hcs
          clear hcs
          have hP5 := below_holds hB5 hP4
          have hB5' := (hB4' hB4).trans (hB5.mono (Nat.le_trans (by have := (hB4' hB4).size; exact this) (Nat.le_refl _)))
          obtain ⟨W6, hW6⟩ : ∃ W6, World.alloc w5 (.cells (contA fun _ => false) 76) = W6 := ⟨_, rfl⟩
          have h6 : Holds W6 w5.heap.size 76 (contA fun _ => false) := by rw [← hW6]; exact Holds.new _ _ _
          have hB6 : Below w5.heap.size w5 W6 := by rw [← hW6]; exact below_new1 _ _
          rw [zeroC] at hW6
          go_wp2_with (first
            | (refine wpList_stK rfl _ _ rfl rfl rfl h6 hC hZ ?_; intro W7 h7 hO7 hs7; clear hs7))
          refine wp_region_perm [0, 3, 4, 5, 6] [1, 2, 7, 8, 9] mixedP (by kernel_rfl) rfl (by kernel_rfl) (fun _ _ _ d _ h => by cases d <;> exact h) ?_
          simp only [pickOps, List.map_cons, List.map_nil, List.getElem?_toArray, List.getElem?_cons_zero, List.getElem?_cons_succ, Option.getD_some]
          go_big_quiet_step (fail)
          go_big_quiet_step (fail)
          go_big_quiet_step (fail)
          go_big_quiet_step (fail)
          go_big_quiet_step (fail)
          refine wpQuiet_nil ?_
          have hP7 := (hO7.holds (below_holds hB6 hP5) (by have := hP5.lt; omega)).drew
          go_wp2_with (first
            | (refine wpList_ldK rfl _ rfl rfl h7.drew hC ?_)
            | (refine wpList_buildP rfl _ _ rfl rfl rfl hC ?_)
            | (refine wpList_stP rfl _ _ rfl rfl rfl hC hP7 rfl ?_; intro W8 h8 hO8 hs8; clear hs8))
          have hB8 : Below w.heap.size w W8 := Only.fresh ((Only.fresh (hB5'.trans (hB6.mono hB5'.size)) hO7 hB5'.size).drew) hO8 (Nat.le_refl _)
          refine bodyPost_ret (results_partT rfl _ _ _ _ _ _ _ _ hC rfl rfl rfl h8) rfl ?_
          refine ⟨_, rfl, ?_, hB8⟩
          have hxe : numsB ((x.extract 4 x.size).extract 0 m) = ((numsB x).drop 4).take m := by
            rw [numsB_extract, numsB_extract, List.drop_zero, List.take_of_length_le (l := (numsB x).drop 4) (by rw [List.length_drop, numsB_len]; omega)]
            rfl
          have hre : numsB ((x.extract 4 x.size).extract m (x.size - 4)) = (numsB x).drop (4 + m) := by
            rw [numsB_extract, numsB_extract, List.take_of_length_le (l := (numsB x).drop 4) (by rw [List.length_drop, numsB_len]; omega), List.drop_drop, List.take_of_length_le (by rw [List.length_drop, numsB_len]; omega)]
          rw [hxe] at hq1 hq2
          rw [← HC.out] at hq1 ⊢
          cases ok with
          | true =>
            obtain ⟨hr1, hr2⟩ := hq1 rfl
            refine .inl ⟨u, q, _, ⟨by rw [numsB_len]; omega, HU.out, by rw [NU_eq]; omega, by rw [HM.out, hkn, numsB_len]; omega, by rw [HM.out, hkn]; exact hre, ?_, ?_⟩, rfl⟩
            · rw [HM.out]; intro hh; exact ⟨hr1, hr2⟩
            · rw [HM.out]; intro hh; omega
          | false =>
            refine .inr ⟨fun u' p r hso => ?_, u, q, _, hu2, rfl⟩
            have := hso.list (by rw [HM.out]; exact hm32)
            rw [HM.out] at this
            exact hq2 rfl this.1
    · have hkn : kindSz m = 32 := by unfold kindSz; rw [if_neg (by omega)]
      have hzz : 32 ≤ 256 := by omega
      by_cases hP1 : 8388607 < u
      · have hP1i : (8388607 : Int) < u := by omega
        go_wp2_with (first
          | (go_at_call 54; refine (hki _).mono ?_; rintro e w4 ⟨kv, rfl, hkv, hB4⟩; obtain ⟨kb, rfl, hkb, hkh⟩ := kind_bits hkv hm32; have hP4 := below_holds hB4 (h1.drewN nq))
          | (refine wpList_stP (u := 0) (cs := contA fun _ => false) rfl _ _ rfl rfl (by rw [zeroC]; rfl) hZ hP4 rfl ?_; intro W5 h5 hO5 hs5))
        refine bodyPost_ret (results_partT rfl _ _ _ _ _ _ _ _ hZ rfl rfl rfl h5) rfl ?_
        refine ⟨_, rfl, .inr ⟨fun u' p r h => ?_, _, _, _, by decide, rfl⟩, Only.fresh (hB4' hB4) hO5 (Nat.le_refl _)⟩
        have q1 := h.low
        have q2 := h.upper
        rw [← HU.out] at q2
        rw [NU_eq] at q1
        omega
      · have hP1i : (u : Int) ≤ 8388607 := by omega
        by_cases hP2 : x.size - 4 < 32
        · go_wp2_with (first
            | (go_at_call 54; refine (hki _).mono ?_; rintro e w4 ⟨kv, rfl, hkv, hB4⟩; obtain ⟨kb, rfl, hkb, hkh⟩ := kind_bits hkv hm32; have hP4 := below_holds hB4 (h1.drewN nq))
            | (refine wpList_stP (u := 0) (cs := contA fun _ => false) rfl _ _ rfl rfl (by rw [zeroC]; rfl) hZ hP4 rfl ?_; intro W5 h5 hO5 hs5))
          refine bodyPost_ret (results_partT rfl _ _ _ _ _ _ _ _ hZ rfl rfl rfl h5) rfl ?_
          refine ⟨_, rfl, .inr ⟨fun u' p r h => ?_, _, _, _, by decide, rfl⟩, Only.fresh (hB4' hB4) hO5 (Nat.le_refl _)⟩
          have q1 := h.size
          rw [HM.out, hkn, numsB_len] at q1
          omega
        · have hP2n : 32 ≤ x.size - 4 := by omega
          have hP2i : ((32 : Int) : Int) ≤ ((x.size - 4 : Nat) : Int) := by omega
          go_wp2_with (first
            | (go_at_call 54; refine (hki _).mono ?_; rintro e w4 ⟨kv, rfl, hkv, hB4⟩; obtain ⟨kb, rfl, hkb, hkh⟩ := kind_bits hkv hm32; have hP4 := below_holds hB4 (h1.drewN nq)))
          have hrd := hbits (by rw [HM.out]; omega) ((x.extract 4 x.size).extract 0 32) m kb w4 (by simp; omega) hkh hm2
          refine hrd.mono ?_
          rintro e w5 ⟨rv, rfl, hrv, hB5⟩
          obtain ⟨q, ok, rfl, hq1, hq2⟩ := hrv.shape
          have hC := IsC.mk q
          generalize hcs : contA q = cs at hC hq1 ⊢
          have HC : Hid (contA q = cs) := hcs
          clear hcs
          have hP5 := below_holds hB5 hP4
          have hB5' := (hB4' hB4).trans (hB5.mono (Nat.le_trans (by have := (hB4' hB4).size; exact this) (Nat.le_refl _)))
          obtain ⟨W6, hW6⟩ : ∃ W6, World.alloc w5 (.cells (contA fun _ => false) 76) = W6 := ⟨_, rfl⟩
          have h6 : Holds W6 w5.heap.size 76 (contA fun _ => false) := by rw [← hW6]; exact Holds.new _ _ _
          have hB6 : Below w5.heap.size w5 W6 := by rw [← hW6]; exact below_new1 _ _
          rw [zeroC] at hW6
          go_wp2_with (first
            | (refine wpList_stK rfl _ _ rfl rfl rfl h6 hC hZ ?_; intro W7 h7 hO7 hs7; clear hs7))
          refine wp_region_perm [0, 3, 4, 5, 6] [1, 2, 7, 8, 9] mixedP (by kernel_rfl) rfl (by kernel_rfl) (fun _ _ _ d _ h => by cases d <;> exact h) ?_
          simp only [pickOps, List.map_cons, List.map_nil, List.getElem?_toArray, List.getElem?_cons_zero, List.getElem?_cons_succ, Option.getD_some]
          go_big_quiet_step (fail)
          go_big_quiet_step (fail)
          go_big_quiet_step (fail)
          go_big_quiet_step (fail)
          go_big_quiet_step (fail)
          refine wpQuiet_nil ?_
          have hP7 := (hO7.holds (below_holds hB6 hP5) (by have := hP5.lt; omega)).drew
          go_wp2_with (first
            | (refine wpList_ldK rfl _ rfl rfl h7.drew hC ?_)
            | (refine wpList_buildP rfl _ _ rfl rfl rfl hC ?_)
            | (refine wpList_stP rfl _ _ rfl rfl rfl hC hP7 rfl ?_; intro W8 h8 hO8 hs8; clear hs8))
          have hB8 : Below w.heap.size w W8 := Only.fresh ((Only.fresh (hB5'.trans (hB6.mono hB5'.size)) hO7 hB5'.size).drew) hO8 (Nat.le_refl _)
          refine bodyPost_ret (results_partT rfl _ _ _ _ _ _ _ _ hC rfl rfl rfl h8) rfl ?_
          refine ⟨_, rfl, ?_, hB8⟩
          have hxe : numsB ((x.extract 4 x.size).extract 0 32) = ((numsB x).drop 4).take 32 := by
            rw [numsB_extract, numsB_extract, List.drop_zero, List.take_of_length_le (l := (numsB x).drop 4) (by rw [List.length_drop, numsB_len]; omega)]
          have hre : numsB ((x.extract 4 x.size).extract 32 (x.size - 4)) = (numsB x).drop (4 + 32) := by
            rw [numsB_extract, numsB_extract, List.take_of_length_le (l := (numsB x).drop 4) (by rw [List.length_drop, numsB_len]; omega), List.drop_drop, List.take_of_length_le (by rw [List.length_drop, numsB_len]; omega)]
          rw [hxe] at hq1 hq2
          rw [← HC.out] at hq1 ⊢
          cases ok with
          | true =>
            obtain ⟨hr1, hr2⟩ := hq1 rfl
            refine .inl ⟨u, q, _, ⟨by rw [numsB_len]; omega, HU.out, by rw [NU_eq]; omega, by rw [HM.out, hkn, numsB_len]; omega, by rw [HM.out, hkn]; exact hre, ?_, ?_⟩, rfl⟩
            · rw [HM.out]; intro hh; omega
            · rw [HM.out]; intro hh; exact ⟨hr2, hr1⟩
          | false =>
            refine .inr ⟨fun u' p r hso => ?_, u, q, _, hu2, rfl⟩
            have := hso.bits (by rw [HM.out]; omega)
            rw [HM.out] at this
            exact hq2 rfl ((cnt_of_cont this.1).symm.trans this.2)
end Go.Proofs.Ytiokbhbggpibpaa
