/-
  What torn does.
-/
import Derived.Test.YtonmjkalkkfhhaaDCopyW
namespace Go.Proofs.Ytonmjkalkkfhhaa
open Go Go.RowKit Go.Maps

/-- Is the sector picked? -/
def odd (x : Int) : Bool := x % 2 == 1
/-- The bytes of an old text, zeros behind it. -/
def oldAt (old : ByteArray) (j : Nat) : UInt8 := old.data.toList.getD j 0
/-- The text with the sectors of these picks, of the first n. -/
def tornAt (old data : ByteArray) (picks : List Int) (n j : Nat) : UInt8 :=
  if j / 256 < n ∧ odd (picks.getD (j / 256) 0) = true then data.data.toList.getD j 0 else oldAt old j
/-- Is one of the first n picked? -/
def anyAt (picks : List Int) (n : Nat) : Bool := (List.range n).any fun i => odd (picks.getD i 0)
def tornT (old data : ByteArray) (picks : List Int) : ByteArray :=
  if anyAt picks (min 4 picks.length) = true then ⟨((List.range 1024).map (tornAt old data picks (min 4 picks.length))).toArray⟩ else old

theorem and_one (x : Int) : bits .and .i64 x 1 = x % 2 := by
  unfold bits
  have e : (1 : Nat) % 2 ^ IntKind.i64.bits = 1 := by decide
  have e2 : (2 : Int) ^ IntKind.i64.bits = 18446744073709551616 := by decide
  simp
  rw [e, Nat.and_one_is_mod, e2, IntKind.wrap_i64]
  omega
theorem anyAt_succ (l : List Int) (i : Nat) : anyAt l (i + 1) = (anyAt l i || odd (l.getD i 0)) := by
  unfold anyAt
  rw [List.range_succ, List.any_append]
  simp
theorem tornAt_no {old data : ByteArray} {l : List Int} {i : Nat} (h : odd (l.getD i 0) = false) (j : Nat) : tornAt old data l (i + 1) j = tornAt old data l i j := by
  unfold tornAt
  by_cases e : j / 256 = i
  · rw [if_neg (by rw [e, h]; simp), if_neg (by omega)]
  · by_cases q : j / 256 < i ∧ odd (l.getD (j / 256) 0) = true
    · rw [if_pos q, if_pos ⟨by omega, q.2⟩]
    · rw [if_neg q, if_neg (fun r => q ⟨by omega, r.2⟩)]
theorem tornAt_yes {old data : ByteArray} {l : List Int} {i : Nat} (h : odd (l.getD i 0) = true) (j : Nat) : tornAt old data l (i + 1) j = if 256 * i ≤ j ∧ j < 256 * i + 256 then data.data.toList.getD j 0 else tornAt old data l i j := by
  unfold tornAt
  by_cases e : j / 256 = i
  · rw [if_pos (by rw [e]; exact ⟨by omega, h⟩), if_pos (by omega)]
  · rw [if_neg (show ¬ (256 * i ≤ j ∧ j < 256 * i + 256) by omega)]
    by_cases q : j / 256 < i ∧ odd (l.getD (j / 256) 0) = true
    · rw [if_pos q, if_pos ⟨by omega, q.2⟩]
    · rw [if_neg q, if_neg (fun r => q ⟨by omega, r.2⟩)]
theorem convert_rowT {w : World} {b cap : Nat} {t : TypeId} {l : List UInt8} (h : w.rowIs b t l.length (fun j => .int .u8 ((l.getD j 0).toNat : Int))) :
    (convert 48 9 (.slice (some ⟨b, 0, none⟩) l.length cap)).run Try.prog w = .ok (.string ⟨l.toArray⟩) w :=
  run_convert_bytes_back w 48 9 5 ⟨b, 0, none⟩ cap l underBytes (by kernel_rfl) (by kernel_rfl) (fun j hj => by
    have := h.cell hj
    rw [add_plain, Nat.zero_add, this, List.getD_eq_getElem?_getD, List.getElem?_eq_getElem hj]
    rfl)

theorem arr1024 : Try.prog.arrayLen 102 = 1024 := by kernel_rfl
theorem elm1024 : Try.prog.elem 102 = 5 := by kernel_rfl
theorem ht1024 : Try.prog.underlying 102 = some (.array (Try.prog.arrayLen 102) (Try.prog.elem 102)) := by rw [arr1024, elm1024]; exact Try.underlying102
theorem sizeU8 (w : World) : (Go.sizeOf 5).run Try.prog w = .ok 1 w := by
  obtain ⟨i5, hi5, _, hs5, _⟩ := info5
  simp [Go.sizeOf, typeInfo, hi5, hs5]
theorem run_sector (w : World) (g A : Nat) (hA : A + 256 ≤ 1024) :
    (Instr.sliceAt 102 (.pointer (some ⟨g, 0, none⟩)) (some (.int .i64 (A : Int))) (some (.int .i64 ((A : Int) + 256))) none).run Try.prog w = .ok (.slice (some ⟨g, A, none⟩) 256 (1024 - A)) w := by
  rw [run_sliceAt_array_lh w 102 _ ht1024 .i64 .i64 (A : Int) ((A : Int) + 256) (by omega) (by omega) (by rw [arr1024]; omega), elm1024, sizeU8, Result.andThen_ok, arr1024]
  unfold slicedAt
  rw [if_neg (by simp; omega), Addr.add_mid]
  simp
  omega
theorem slice_from (x : ByteArray) (p : Nat) (hp : p ≤ x.size) (w : World) : (Instr.sliceAt 9 (.string x) (some (.int .i64 (p : Int))) none none).run Try.prog w = .ok (.string (x.extract p x.size)) w := by
  have h1 : (p : Int) ≤ x.size := by omega
  go_simp

set_option maxRecDepth 100000 in
set_option maxHeartbeats 2000000 in
theorem torn_any {w : World} (old data : ByteArray) (ho : old.size = 0 ∨ old.size = 1024) (hdt : data.size = 1024) {v : Value} {l : List Int} (hl : ∀ W, Below w.heap.size w W → IntsAt W v l) (hlm : l.length ≤ 9223372036854775807) :
    Calls Try.prog 54 #[.string old, .string data, v] w fun e w' => e = .returned (.string (tornT old data l)) ∧ Below w.heap.size w w' := by
  obtain ⟨p, c, rfl⟩ := (hl w (Below.refl _ _)).len
  have hli : (l.length : Int) ≤ 9223372036854775807 := by omega
  have hr0 := row102 w
  have hB0 := below_new1 w (.cells Try.zeroCells102 102)
  obtain ⟨g, hg⟩ : ∃ g, w.heap.size = g := ⟨_, rfl⟩
  rw [hg] at hr0
  have HG : Hid (w.heap.size = g) := hg
  obtain ⟨W0, hW0⟩ : ∃ W, w.alloc (.cells Try.zeroCells102 102) = W := ⟨_, rfl⟩
  rw [hW0] at hr0 hB0
  obtain ⟨w1, hrun1, hr1, hO1⟩ := run_copyS hr0 0 1024 1024 (by omega) old old.size (by show min old.size 1024 = _; omega) 3
  unfold goInt at hrun1
  have hB1 : Below w.heap.size w w1 := Only.fresh hB0 hO1 (by omega)
  have hr1' : w1.rowIs g 102 1024 (fun j => .int .u8 (((tornAt old data l 0 j).toNat : Nat) : Int)) := hr1.congr fun j hj => by
    unfold tornAt oldAt
    rw [if_neg (show ¬ (j / 256 < 0 ∧ odd (l.getD (j / 256) 0) = true) from fun q => absurd q.1 (Nat.not_lt_zero _))]
    by_cases e : j < old.size
    · rw [if_pos (by omega), Nat.sub_zero]
    · rw [if_neg (by omega), List.getD_eq_getElem?_getD, List.getElem?_eq_none (by show old.size ≤ j; omega)]; rfl
  obtain ⟨mm, hmm⟩ : ∃ mm, min 4 l.length = mm := ⟨_, rfl⟩
  have hmi : min (4 : Int) l.length = (mm : Int) := by omega
  have hm4 : mm ≤ 4 := by omega
  have hml : mm ≤ l.length := by omega
  obtain ⟨T, hT⟩ : ∃ T, tornT old data l = T := ⟨_, rfl⟩
  have HT : Hid (T = if anyAt l mm = true then ⟨((List.range 1024).map (tornAt old data l mm)).toArray⟩ else old) := by
    show _ = _
    rw [← hT]
    unfold tornT
    rw [hmm]
  rw [hT]
  clear hT
  clear hr1 hO1 hr0 hB0 hmm
  go_enter Try.func54, Try.ntmps54
  go_wp2_with fail
  go_loopw [8, 17] (fun q y wr => ∃ i : Nat, i ≤ mm ∧ y = .int .i64 (i : Nat) ∧ q = .bool (anyAt l i) ∧ Below w.heap.size w wr ∧ wr.rowIs g 102 1024 (fun j => .int .u8 (((tornAt old data l i j).toNat : Nat) : Int))) (fun _ y _ => mm - (intOf y).toNat)
  case atStart => exact ⟨0, by omega, rfl, rfl, hB1, hr1'⟩
  case round =>
    obtain ⟨i, him, rfl, rfl, hB, hr⟩ := hrel
    by_cases hk : i < mm
    · have hki : (i : Int) < mm := by omega
      obtain ⟨x, hx⟩ : ∃ x, l[i]? = some x := ⟨_, List.getElem?_eq_getElem (by omega)⟩
      obtain ⟨gg, o, rfl, _, hcx⟩ := (hl wr hB).at hx
      have hx0 : l.getD i 0 = x := by rw [List.getD_eq_getElem?_getD, hx]; rfl
      have hband := and_one x
      cases hod : odd x with
      | false =>
        have hb0 : x % 2 = 0 := by unfold odd at hod; have := beq_eq_false_iff_ne.1 hod; omega
        rw [hb0] at hband
        have HR : Hid (wr.rowIs g 102 1024 (fun j => .int .u8 (((tornAt old data l (i + 1) j).toNat : Nat) : Int))) := hr.congr fun j _ => by rw [tornAt_no (by rw [hx0]; exact hod)]
        have HA : Hid (anyAt l i = anyAt l (i + 1)) := by show _ = _; rw [anyAt_succ, hx0, hod, Bool.or_false]
        clear hr hod
        go_wp2_with fail
        go_roundw
        case rel => exact ⟨i + 1, by omega, by go_num, by rw [HA.out], hB, HR.out⟩
        case measure => simp [intOf]; omega
      | true =>
        have hb1 : x % 2 = 1 := by unfold odd at hod; exact beq_iff_eq.1 hod
        rw [hb1] at hband
        obtain ⟨A, hA⟩ : ∃ A : Nat, A = i * 256 := ⟨_, rfl⟩
        have HAi : Hid ((i : Int) * 256 = (A : Int)) := by show _ = _; omega
        have hr2 : wr.drew.rowIs g 102 1024 (fun j => .int .u8 (((tornAt old data l i j).toNat : Nat) : Int)) := hr.drew
        obtain ⟨w2, hrun2, hr3, hO2⟩ := run_copyS hr2 A 256 (1024 - A) (by omega) (data.extract A 1024) 256 (by show min (data.extract A 1024).size 256 = _; rw [ByteArray.size_extract]; omega) 3
        unfold goInt at hrun2
        have HR : Hid (w2.rowIs g 102 1024 (fun j => .int .u8 (((tornAt old data l (i + 1) j).toNat : Nat) : Int))) := hr3.congr fun j hj => by
          rw [tornAt_yes (by rw [hx0]; exact hod)]
          by_cases q : A ≤ j ∧ j < A + 256
          · rw [if_pos q, if_pos (by omega)]
            congr 3
            have e : (data.extract A 1024).data.toList = (data.data.toList.take 1024).drop A := by simp [List.drop_take]
            rw [e, List.getD_eq_getElem?_getD, List.getD_eq_getElem?_getD, List.getElem?_drop, List.getElem?_take_of_lt (by omega), show A + (j - A) = j by omega]
          · rw [if_neg q, if_neg (by omega)]
        have HA : Hid (true = anyAt l (i + 1)) := by show _ = _; rw [anyAt_succ, hx0, hod, Bool.or_true]
        have HB : Hid (Below w.heap.size w w2) := Only.fresh hB.drew hO2 (by have := HG.out; omega)
        have HRun : Hid _ := hrun2
        have HA1 : Hid ((A : Int) + 256 ≤ 1024) := by show _ ≤ _; omega
        clear hr hr2 hr3 hO2 hod hrun2 hA
        go_wp2_with fail
        simp only [HAi.out]
        have hA0 : (0 : Int) ≤ A := by omega
        have hA1 := HA1.out
        have hrun2 := HRun.out
        have hdi : (data.size : Int) = 1024 := by omega
        refine wp_region_perm [0, 1, 2, 3, 4, 5, 6] [7] mixedP (by kernel_rfl) rfl (by kernel_rfl) (fun _ _ _ d _ h => by cases d <;> exact h) ?_
        simp only [pickOps, List.map_cons, List.map_nil, List.getElem?_toArray, List.getElem?_cons_zero, List.getElem?_cons_succ, Option.getD_some]
        go_big_quiet_step (exact fun _ => rfl)
        go_big_quiet_step (exact fun _ => rfl)
        go_big_quiet_step (exact fun _ => rfl)
        refine wpQ_val rfl (.slice (some ⟨g, A, none⟩) 256 (1024 - A)) (fun w => by have := run_sector w g A (by omega); go_simp) ?_
        go_frame
        go_big_quiet_step (exact fun _ => rfl)
        go_big_quiet_step (exact fun _ => rfl)
        refine wpQ_val rfl (.string (data.extract A 1024)) (fun w => by have := slice_from data A (by omega) w; rw [hdt] at this; go_simp) ?_
        go_frame
        refine wpQuiet_nil ?_
        go_wp2_with fail
        go_roundw
        case rel => exact ⟨i + 1, by omega, by go_num, by rw [HA.out], HB.out, HR.out⟩
        case measure => simp [intOf]; omega
    · have hni : ¬ (i : Int) < mm := by omega
      have him2 : i = mm := by omega
      subst him2
      cases hany : anyAt l i with
      | false =>
        have hTo : T = old := by rw [HT.out, hany]; rfl
        subst hTo
        clear HT hr
        go_wp2_with fail
        go_ret
        exact ⟨rfl, by rw [← HG.out]; exact hB⟩
      | true =>
        have hcv : (convert 48 9 (.slice (some ⟨g, 0, none⟩) 1024 1024)).run Try.prog wr = .ok (.string T) wr := by
          have hcv := convert_rowT (l := (List.range 1024).map (tornAt old data l i)) (cap := 1024) (w := wr) (b := g) (t := 102) (by
            rw [List.length_map, List.length_range]
            refine hr.congr fun j hj => ?_
            rw [List.getD_eq_getElem?_getD, List.getElem?_map, List.getElem?_range hj]
            rfl)
          rw [List.length_map, List.length_range] at hcv
          rw [hcv, HT.out, hany, if_pos rfl]
        clear HT hr
        go_wp2_with fail
        go_ret
        exact ⟨rfl, by rw [← HG.out]; exact hB⟩
end Go.Proofs.Ytonmjkalkkfhhaa
