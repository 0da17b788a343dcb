/-
  Texts of this claim, put together.
-/
import Derived.Test.YtiokbhbggpibpaaBGJ
/-
  The document's Has, Cut, From, Least.
-/
namespace Go.Proofs.Ytiokbhbggpibpaa
open Go Go.RowKit Go.Maps

set_option maxRecDepth 100000 in
theorem qhas_any {w : World} {p : Option Addr} {n c : Nat} {L : List Nat} (hv : IntsAt w (.slice p n c) (L.map fun x : Nat => (x : Int))) (hln : L.length ≤ 1000000) (f : Int) :
    Calls Try.prog 59 #[.slice p n c, .int .i64 f] w fun e w' => e = .returned (.bool (decide (f ∈ L.map fun x : Nat => (x : Int)))) ∧ Below w.heap.size w w' := by
  have hlen : L.length = n := by have := hv.len; simpa using this
  go_enter Try.func59, Try.ntmps59
  go_wp2_with fail
  go_loopw [5] (fun y wr => ∃ i : Nat, y = .int .i64 (i : Nat) ∧ i ≤ L.length ∧ (∀ x ∈ L.take i, (x : Int) ≠ f) ∧ wr = w) (fun y _ => L.length - (intOf y).toNat)
  case atStart => exact ⟨0, rfl, Nat.zero_le _, by simp, rfl⟩
  case round =>
    obtain ⟨i, rfl, hil, hno, rfl⟩ := hrel
    by_cases hlt : i < L.length
    · obtain ⟨g, o, rfl, hcell⟩ := hv.nat (by omega)
      have hlti : (i : Int) < n := by omega
      have hi0 : (0 : Int) ≤ i := by omega
      obtain ⟨x, hx⟩ : ∃ x, L[i]? = some x := ⟨_, List.getElem?_eq_getElem hlt⟩
      have hc := hcell wr (Below.refl _ _) i x hx
      have hj1 : i + 1 ≤ L.length := hlt
      have hjm : L.length - (i + 1) < L.length - i := by omega
      have HX : Hid (L[i]? = some x) := hx
      have HNO : Hid (∀ x ∈ L.take i, (x : Int) ≠ f) := hno
      clear hcell hx hno
      by_cases hxf : (x : Int) = f
      · have hq : ((x : Int) == f) = true := by simp [hxf]
        have HM : Hid (f ∈ L.map fun x : Nat => (x : Int)) := List.mem_map.2 ⟨x, List.mem_of_getElem? HX.out, hxf⟩
        clear hxf
        go_wp2_with fail
        go_ret
        exact ⟨by rw [decide_eq_true HM.out]; rfl, Below.refl _ _⟩
      · have hq : ((x : Int) == f) = false := beq_eq_false_iff_ne.2 hxf
        have HN2 : Hid (∀ y ∈ L.take (i + 1), (y : Int) ≠ f) := (by
          intro y hy
          rw [take_snoc HX.out, List.mem_append] at hy
          rcases hy with hy | hy
          · exact HNO.out y hy
          · rw [List.mem_singleton.1 hy]; exact hxf)
        clear hxf
        go_wp2_with fail
        exact ⟨⟨i + 1, by simp, hj1, HN2.out, by first | rfl | trivial⟩, by rw [toNat_succ, toNat_self]; exact hjm⟩
    · obtain rfl : i = L.length := by omega
      have hli : decide ((L.length : Int) < n) = false := decide_eq_false (by omega)
      rw [List.take_length] at hno
      have HM : Hid (¬ f ∈ L.map fun x : Nat => (x : Int)) := fun h => by
        obtain ⟨x, hx, e⟩ := List.mem_map.1 h
        exact hno x hx e
      clear hno
      go_wp2_with fail
      go_ret
      exact ⟨by rw [decide_eq_false HM.out]; rfl, Below.refl _ _⟩

set_option maxRecDepth 100000 in
set_option maxHeartbeats 2000000 in
theorem qcut_any {w : World} {p : Option Addr} {n c : Nat} {L : List Nat} (hv : IntsAt w (.slice p n c) (L.map fun x : Nat => (x : Int))) (hln : L.length ≤ 1000000) (f : Int) :
    Calls Try.prog 41 #[.slice p n c, .int .i64 f] w fun e w' => ∃ v, e = .returned v ∧ OwnInts w' w.heap.size v (L.filter fun x : Nat => decide ((x : Int) < f)) ∧ Below w.heap.size w w' := by
  have hlen : L.length = n := by have := hv.len; simpa using this
  obtain ⟨i3, hi, hz0, hz1, hz2⟩ := info_parts info3
  go_enter Try.func41, Try.ntmps41
  go_wp2_with fail
  go_loopw [5, 6] (fun ov y wr => ∃ i : Nat, y = .int .i64 (i : Nat) ∧ i ≤ L.length ∧ OwnInts wr w.heap.size ov ((L.take i).filter fun x : Nat => decide ((x : Int) < f)) ∧ Below w.heap.size w wr) (fun _ y _ => L.length - (intOf y).toNat)
  case atStart => exact ⟨0, rfl, Nat.zero_le _, World.ownsRow_nil _ _ _ _, Below.refl _ _⟩
  case round =>
    obtain ⟨i, rfl, hil, hownq, hBr⟩ := hrel
    have hszq := hBr.size
    by_cases hlt : i < L.length
    · obtain ⟨g, o, rfl, hcell⟩ := hv.nat (by omega)
      have hlti : (i : Int) < n := by omega
      have hi0 : (0 : Int) ≤ i := by omega
      obtain ⟨x, hx⟩ : ∃ x, L[i]? = some x := ⟨_, List.getElem?_eq_getElem hlt⟩
      have hc := hcell wr hBr i x hx
      have hj1 : i + 1 ≤ L.length := hlt
      have hjm : L.length - (i + 1) < L.length - i := by omega
      have hfl : ((L.take i).filter fun x : Nat => decide ((x : Int) < f)).length ≤ 1000000 := Nat.le_trans (List.length_filter_le _ _) (by rw [List.length_take]; omega)
      by_cases hxf : (x : Int) < f
      · have HSN : Hid ((L.take (i + 1)).filter (fun x : Nat => decide ((x : Int) < f)) = (L.take i).filter (fun x : Nat => decide ((x : Int) < f)) ++ [x]) := (by
          show (L.take (i + 1)).filter _ = _
          rw [take_snoc hx, List.filter_append]
          congr 1
          simp [hxf])
        have hxi : (x : Int) < f := hxf
        generalize (L.take i).filter (fun x : Nat => decide ((x : Int) < f)) = Z at hownq hfl HSN
        clear hcell hx
        go_wp2_with (first
          | (at_builtin; refine wpList_append_own _ rfl _ _ 22 rfl w.heap.size 3 i3 (.int .i64 0) 1 8 underInts hi hz0 hz1 hz2 rfl (by decide) _ _ _ rfl (hownq.alloc _) ⟨wr.heap.size, 0, none⟩ 1 1 [.int .i64 (x : Nat)] rfl rfl (cells_new _ _ _) (by simp [Value.oneCell']) (by unfold maxLen; omega) (by omega) (by simp; omega) ?_; intro v6 w6 hown7 hgrow7 hnil7))
        refine ⟨⟨i + 1, by simp, hj1, ?_, (hBr.alloc hszq _).grown hgrow7 (by simp; omega) (fun k e => (World.ownsRow.lt hownq k e).1)⟩, by rw [toNat_succ, toNat_self]; exact hjm⟩
        rw [HSN.out]
        unfold OwnInts
        rw [List.length_append, List.map_append]
        exact hown7
      · have HSN : Hid ((L.take (i + 1)).filter (fun x : Nat => decide ((x : Int) < f)) = (L.take i).filter (fun x : Nat => decide ((x : Int) < f))) := (by
          show (L.take (i + 1)).filter _ = _
          rw [take_snoc hx, List.filter_append]
          simp [hxf])
        have hxi : decide ((x : Int) < f) = false := decide_eq_false hxf
        clear hcell hx
        go_wp2_with fail
        exact ⟨⟨i + 1, by simp, hj1, by rw [HSN.out]; exact hownq, hBr⟩, by rw [toNat_succ, toNat_self]; exact hjm⟩
    · obtain rfl : i = L.length := by omega
      have hli : decide ((L.length : Int) < n) = false := decide_eq_false (by omega)
      rw [List.take_length] at hownq
      go_wp2_with fail
      go_ret
      exact ⟨_, rfl, hownq, hBr⟩

set_option maxRecDepth 100000 in
set_option maxHeartbeats 2000000 in
theorem qfrom_any {w : World} {p : Option Addr} {n c : Nat} {L : List Nat} (hv : IntsAt w (.slice p n c) (L.map fun x : Nat => (x : Int))) (hln : L.length ≤ 1000000) (f : Int) :
    Calls Try.prog 63 #[.slice p n c, .int .i64 f] w fun e w' => ∃ v, e = .returned v ∧ OwnInts w' w.heap.size v (L.filter fun x : Nat => decide (f ≤ (x : Int))) ∧ Below w.heap.size w w' := by
  have hlen : L.length = n := by have := hv.len; simpa using this
  obtain ⟨i3, hi, hz0, hz1, hz2⟩ := info_parts info3
  go_enter Try.func63, Try.ntmps63
  go_wp2_with fail
  go_loopw [5, 6] (fun ov y wr => ∃ i : Nat, y = .int .i64 (i : Nat) ∧ i ≤ L.length ∧ OwnInts wr w.heap.size ov ((L.take i).filter fun x : Nat => decide (f ≤ (x : Int))) ∧ Below w.heap.size w wr) (fun _ y _ => L.length - (intOf y).toNat)
  case atStart => exact ⟨0, rfl, Nat.zero_le _, World.ownsRow_nil _ _ _ _, Below.refl _ _⟩
  case round =>
    obtain ⟨i, rfl, hil, hownq, hBr⟩ := hrel
    have hszq := hBr.size
    by_cases hlt : i < L.length
    · obtain ⟨g, o, rfl, hcell⟩ := hv.nat (by omega)
      have hlti : (i : Int) < n := by omega
      have hi0 : (0 : Int) ≤ i := by omega
      obtain ⟨x, hx⟩ : ∃ x, L[i]? = some x := ⟨_, List.getElem?_eq_getElem hlt⟩
      have hc := hcell wr hBr i x hx
      have hj1 : i + 1 ≤ L.length := hlt
      have hjm : L.length - (i + 1) < L.length - i := by omega
      have hfl : ((L.take i).filter fun x : Nat => decide (f ≤ (x : Int))).length ≤ 1000000 := Nat.le_trans (List.length_filter_le _ _) (by rw [List.length_take]; omega)
      by_cases hxf : f ≤ (x : Int)
      · have HSN : Hid ((L.take (i + 1)).filter (fun x : Nat => decide (f ≤ (x : Int))) = (L.take i).filter (fun x : Nat => decide (f ≤ (x : Int))) ++ [x]) := (by
          show (L.take (i + 1)).filter _ = _
          rw [take_snoc hx, List.filter_append]
          congr 1
          simp [hxf])
        have hxi : f ≤ (x : Int) := hxf
        generalize (L.take i).filter (fun x : Nat => decide (f ≤ (x : Int))) = Z at hownq hfl HSN
        clear hcell hx
        go_wp2_with (first
          | (at_builtin; refine wpList_append_own _ rfl _ _ 22 rfl w.heap.size 3 i3 (.int .i64 0) 1 8 underInts hi hz0 hz1 hz2 rfl (by decide) _ _ _ rfl (hownq.alloc _) ⟨wr.heap.size, 0, none⟩ 1 1 [.int .i64 (x : Nat)] rfl rfl (cells_new _ _ _) (by simp [Value.oneCell']) (by unfold maxLen; omega) (by omega) (by simp; omega) ?_; intro v6 w6 hown7 hgrow7 hnil7))
        refine ⟨⟨i + 1, by simp, hj1, ?_, (hBr.alloc hszq _).grown hgrow7 (by simp; omega) (fun k e => (World.ownsRow.lt hownq k e).1)⟩, by rw [toNat_succ, toNat_self]; exact hjm⟩
        rw [HSN.out]
        unfold OwnInts
        rw [List.length_append, List.map_append]
        exact hown7
      · have HSN : Hid ((L.take (i + 1)).filter (fun x : Nat => decide (f ≤ (x : Int))) = (L.take i).filter (fun x : Nat => decide (f ≤ (x : Int)))) := (by
          show (L.take (i + 1)).filter _ = _
          rw [take_snoc hx, List.filter_append]
          simp [hxf])
        have hxi : decide (f ≤ (x : Int)) = false := decide_eq_false hxf
        clear hcell hx
        go_wp2_with fail
        exact ⟨⟨i + 1, by simp, hj1, by rw [HSN.out]; exact hownq, hBr⟩, by rw [toNat_succ, toNat_self]; exact hjm⟩
    · obtain rfl : i = L.length := by omega
      have hli : decide ((L.length : Int) < n) = false := decide_eq_false (by omega)
      rw [List.take_length] at hownq
      go_wp2_with fail
      go_ret
      exact ⟨_, rfl, hownq, hBr⟩

end Go.Proofs.Ytiokbhbggpibpaa
/-
  The document's Least.
-/
namespace Go.Proofs.Ytiokbhbggpibpaa
open Go Go.RowKit Go.Maps

/-- The first of them, if there is one. -/
def firstV (F : List Nat) : Value := match F with
  | [] => .tuple #[.int .i64 0, .bool false]
  | x :: _ => .tuple #[.int .i64 (x : Nat), .bool true]
set_option maxRecDepth 100000 in
theorem qleast_any {w : World} {p : Option Addr} {n c : Nat} {L : List Nat} (hv : IntsAt w (.slice p n c) (L.map fun x : Nat => (x : Int))) (hln : L.length ≤ 1000000) (f : Int) :
    Calls Try.prog 43 #[.slice p n c, .int .i64 f] w fun e w' => e = .returned (firstV (L.filter fun x : Nat => decide (f ≤ (x : Int)))) ∧ Below w.heap.size w w' := by
  have hqf := qfrom_any hv hln f
  have hFl : (L.filter fun x : Nat => decide (f ≤ (x : Int))).length ≤ 1000000 := Nat.le_trans (List.length_filter_le _ _) hln
  generalize L.filter (fun x : Nat => decide (f ≤ (x : Int))) = F at hqf hFl
  cases F with
  | nil =>
    go_enter Try.func43, Try.ntmps43
    go_wp2_with (first
      | (go_at_call 63; refine hqf.mono ?_; rintro e w1 ⟨v, rfl, hown, hB1⟩; obtain ⟨p1, c1, rfl, hia⟩ := hown.intsAt; have hl0 : ([] : List Nat).length = 0 := rfl; rw [hl0] at hia))
    go_ret2
    exact ⟨rfl, hB1⟩
  | cons x t =>
    have hlp : (0 : Int) < (x :: t).length := by simp
    have hlq : (((x :: t).length : Int) == 0) = false := beq_eq_false_iff_ne.2 (by omega)
    generalize hm : (x :: t).length = m at hlp hlq hFl
    have HM : Hid ((x :: t).length = m) := hm
    go_enter Try.func43, Try.ntmps43
    go_wp2_with (first
      | (go_at_call 63; refine hqf.mono ?_; rintro e w1 ⟨v, rfl, hown, hB1⟩; obtain ⟨p1, c1, rfl, hia⟩ := hown.intsAt; obtain ⟨g, o, rfl, hcell⟩ := hia.nat (by simp); have hc0 := hcell w1 (Below.refl _ _) 0 x rfl; rw [Nat.add_zero] at hc0; rw [HM.out]; clear hcell hia hown hqf))
    go_ret2
    exact ⟨rfl, hB1⟩
end Go.Proofs.Ytiokbhbggpibpaa
/-
  The document's Add.
-/
namespace Go.Proofs.Ytiokbhbggpibpaa
open Go Go.RowKit Go.Maps

/-- With one more, in its place. -/
def insL (L : List Nat) (m k : Nat) : List Nat := L.take k ++ [m] ++ L.drop k
theorem OwnInts.zero {w : World} {base : Nat} {v : Value} {L : List Nat} (h : OwnInts w base v L) : OwnInts w 0 v L :=
  ⟨h.1, h.2.imp id fun ⟨g, cap, cur, h1, _, h3⟩ => ⟨g, cap, cur, h1, Nat.zero_le _, h3⟩⟩
theorem OwnInts.shape {w : World} {base : Nat} {v : Value} {L : List Nat} (h : OwnInts w base v L) : (v = .slice none 0 0 ∧ L = []) ∨ ∃ g cap, v = .slice (some ⟨g, 0, none⟩) L.length cap ∧ L.length ≤ cap ∧ cap ≤ maxLen ∧ g < w.heap.size ∧ ∀ W, Below w.heap.size w W → ∀ j x, L[j]? = some x → W.cell? ⟨g, j, none⟩ = some (.int .i64 (x : Nat)) := by
  have hc := h
  rcases h.2 with ⟨e, h0⟩ | ⟨g, cap, cur, e, hb, hg, h1, h2, _⟩
  · exact .inl ⟨e, List.eq_nil_of_length_eq_zero h0⟩
  · refine .inr ⟨g, cap, e, h1, h2, (Array.getElem?_eq_some_iff.1 hg).1, fun W hB j x hx => ?_⟩
    subst e
    have e := hc.cells (g := g) rfl j (.int .i64 (x : Nat)) (by rw [List.getElem?_map, hx]; rfl)
    rw [Addr.add_mid, Nat.zero_add] at e
    exact (hB.cell (p := ⟨g, j, none⟩) (World.block_lt_of_cell? _ _ e)).trans e
theorem cap_of {w : World} {base g n cap : Nat} {e : TypeId} {size : Nat} {xs : List Value} (h : w.ownsRow base e size (.slice (some ⟨g, 0, none⟩) n cap) n xs) : n ≤ cap := by
  rcases h.2 with ⟨e, _⟩ | ⟨g, cap', cur, e, _, _, h1, _⟩
  · cases e
  · injection e with _ _ e3
    omega
/-- So many stand below. -/
def Place (L : List Nat) (m k : Nat) : Prop := k ≤ L.length ∧ (∀ x ∈ L.take k, x < m) ∧ ∀ z, L[k]? = some z → m ≤ z

set_option maxRecDepth 100000 in
set_option maxHeartbeats 2000000 in
theorem qadd_yes {w : World} {v : Value} {L : List Nat} (hv : OwnInts w 0 v L) (hln : L.length ≤ 1000000) (m : Nat) (hm : m < 2147483648) (hno : m ∉ L) :
    Calls Try.prog 35 #[v, .int .i64 (m : Nat)] w fun e w' => ∃ v' k, e = .returned (.tuple #[v', .bool true]) ∧ OwnInts w' 0 v' (insL L m k) ∧ Place L m k ∧ Below w.heap.size w w' := by
  obtain ⟨i3, hi, hz0, hz1, hz2⟩ := info_parts info3
  have hmi : (m : Int) ≤ 2147483647 := by omega
  have hm0 : (0 : Int) ≤ m := by omega
  have hd1 : decide ((m : Int) < 0) = false := decide_eq_false (by omega)
  have hd2 : decide ((2147483647 : Int) < m) = false := decide_eq_false (by omega)
  have hnd : decide ((m : Int) ∈ L.map fun x : Nat => (x : Int)) = false := decide_eq_false fun h => by
    obtain ⟨x, hx, e⟩ := List.mem_map.1 h
    exact hno (by rw [← show x = m by omega]; exact hx)
  obtain ⟨p0, c0, e0, hia⟩ := hv.intsAt
  have hqh := qhas_any hia hln (m : Int)
  rw [hnd] at hqh
  clear hnd
  rcases hv.shape with ⟨rfl, rfl⟩ | ⟨g, cap, rfl, hlc, hcm, hgl, hcell⟩
  · injection e0 with e1 e2 e3
    subst e1 e3
    clear e2 hia hv
    simp only [List.length_nil] at hqh
    have hnil : OwnInts w 0 (.slice none 0 0) [] := World.ownsRow_nil _ _ _ _
    go_enter Try.func35, Try.ntmps35
    go_wp2_with (first
      | (go_at_call 59; refine hqh.mono ?_; rintro e w1 ⟨rfl, hB1⟩; clear hqh))
    go_loopw [8] (fun y wr => y = .int .i64 0 ∧ wr = w1) (fun _ _ => 0)
    case atStart => exact ⟨rfl, rfl⟩
    case round =>
      obtain ⟨rfl, rfl⟩ := hrel
      go_wp2_with (first
        | (at_builtin; refine wpList_append_own _ rfl _ _ 22 rfl 0 3 i3 (.int .i64 0) 1 8 underInts hi hz0 hz1 hz2 rfl (by decide) _ _ _ rfl ((World.ownsRow_nil wr 0 3 1).alloc _) ⟨wr.heap.size, 0, none⟩ 1 1 [.int .i64 (m : Nat)] rfl rfl (cells_new _ _ _) (by simp [Value.oneCell']) (by unfold maxLen; omega) (by omega) (Nat.zero_le _) ?_; intro v6 w6 hown6 hgrow6 hnil6; obtain ⟨g6, cap6, rfl⟩ := ownsRow_succ (k := 0) hown6; have hcp6 : 0 + 1 ≤ cap6 := cap_of hown6; have hcp6i : ((0 + 1 : Nat) : Int) ≤ cap6 := (by omega)))
      go_ret2
      exact ⟨_, 0, rfl, hown6, ⟨Nat.le_refl _, by simp, by simp⟩, (hB1.alloc (by have := hB1.size; omega) _).grown hgrow6 (by have := hB1.size; simp; omega) (fun k e => by cases e)⟩
  · injection e0 with e1 e2 e3
    subst e1 e3
    clear e2
    go_enter Try.func35, Try.ntmps35
    go_wp2_with (first
      | (go_at_call 59; refine hqh.mono ?_; rintro e w1 ⟨rfl, hB1⟩; clear hqh))
    go_loopw [8] (fun y wr => ∃ k : Nat, y = .int .i64 (k : Nat) ∧ k ≤ L.length ∧ (∀ x ∈ L.take k, x < m) ∧ wr = w1) (fun y _ => L.length - (intOf y).toNat)
    case atStart => exact ⟨0, rfl, Nat.zero_le _, by simp, rfl⟩
    case round =>
      obtain ⟨k, rfl, hkl0, hpre, rfl⟩ := hrel
      by_cases hk : k < L.length
      · have hki : (k : Int) < L.length := by omega
        have hk0 : (0 : Int) ≤ k := by omega
        obtain ⟨x, hx⟩ : ∃ x, L[k]? = some x := ⟨_, List.getElem?_eq_getElem hk⟩
        have hc := hcell wr hB1 k x hx
        by_cases hxm : x < m
        · have hxi : (x : Int) < m := by omega
          have HP : Hid (∀ y ∈ L.take (k + 1), y < m) := (by
            intro y hy
            rw [take_snoc hx, List.mem_append] at hy
            rcases hy with hy | hy
            · exact hpre y hy
            · rw [List.mem_singleton.1 hy]; exact hxm)
          have hj1 : k + 1 ≤ L.length := hk
          have hjm : L.length - (k + 1) < L.length - k := by omega
          clear hcell hx hpre
          go_wp2_with fail
          exact ⟨⟨k + 1, by simp, hj1, HP.out, by first | rfl | trivial⟩, by rw [toNat_succ, toNat_self]; exact hjm⟩
        · have hxi : decide ((x : Int) < m) = false := decide_eq_false (by omega)
          have HPL : Hid (Place L m k) := ⟨hkl0, hpre, fun z hz => by rw [hx] at hz; injection hz with hz; omega⟩
          clear hx hpre
          obtain ⟨tk, htk⟩ : ∃ l, L.take k = l := ⟨_, rfl⟩
          obtain ⟨dk, hdk⟩ : ∃ l, L.drop k = l := ⟨_, rfl⟩
          have htl : tk.length = k := by rw [← htk, List.length_take]; omega
          have hdl : dk.length = L.length - k := by rw [← hdk, List.length_drop]
          have HT : Hid (L.take k = tk) := htk
          have HDK : Hid (L.drop k = dk) := hdk
          have hcT : ∀ W, Below wr.heap.size wr W → ∀ j v, (tk.map fun x : Nat => Value.int .i64 (x : Int))[j]? = some v → W.cell? ((⟨g, 0, none⟩ : Addr).add j) = some v := fun W hB j v hj => by
            rw [List.getElem?_map] at hj
            cases hx : tk[j]? with
            | none => rw [hx] at hj; cases hj
            | some x =>
              rw [hx] at hj
              injection hj with hj
              subst hj
              rw [add_plain, Nat.zero_add]
              have hjl := (List.getElem?_eq_some_iff.1 hx).1
              refine hcell W (hB1.trans (hB.mono hB1.size)) j x ?_
              rw [← htk, List.getElem?_take_of_lt (by omega)] at hx
              exact hx
          have hcD : ∀ W, Below wr.heap.size wr W → ∀ j v, (dk.map fun x : Nat => Value.int .i64 (x : Int))[j]? = some v → W.cell? ((⟨g, k, none⟩ : Addr).add j) = some v := fun W hB j v hj => by
            rw [List.getElem?_map] at hj
            cases hx : dk[j]? with
            | none => rw [hx] at hj; cases hj
            | some x =>
              rw [hx] at hj
              injection hj with hj
              subst hj
              rw [add_plain]
              refine hcell W (hB1.trans (hB.mono hB1.size)) (k + j) x ?_
              rw [← hdk, List.getElem?_drop] at hx
              exact hx
          have HCT : Hid _ := hcT
          have HCD : Hid _ := hcD
          have hT0 := hcT wr (Below.refl _ _)
          have hkc : (k : Int) ≤ cap := by omega
          have hkl : (k : Int) ≤ L.length := by omega
          have hcmi : (cap : Int) ≤ 9223372036854775807 := by unfold maxLen at hcm; omega
          clear hcT hcD hcell htk hdk hia
          have hsz1 := hB1.size
          have htm : tk.length ≤ 1000000 := by omega
          have hdm : dk.length ≤ 1000000 := by omega
          go_wp2_with (first
            | (at_builtin; refine wpList_append_own _ rfl _ _ 22 rfl wr.heap.size 3 i3 (.int .i64 0) 1 8 underInts hi hz0 hz1 hz2 rfl (by decide) _ _ _ rfl (World.ownsRow_nil wr wr.heap.size 3 1) ⟨g, 0, none⟩ k cap (tk.map fun x : Nat => Value.int .i64 (x : Int)) rfl (by simp [htl]) hT0 (by intro u hu; obtain ⟨y, _, rfl⟩ := List.mem_map.1 hu; rfl) (by unfold maxLen; omega) (by omega) (Nat.le_refl _) ?_; intro v7 w7 hown7 hgrow7 hnil7; clear hT0 hnil7; have hD7 : Below wr.heap.size wr w7 := (Below.refl _ wr).grown hgrow7 (Nat.le_refl _) (fun k e => (by cases e)); have hsz7 := hD7.size)
            | (at_builtin; refine wpList_append_own _ rfl _ _ 22 rfl wr.heap.size 3 i3 (.int .i64 0) 1 8 underInts hi hz0 hz1 hz2 rfl (by decide) _ _ _ rfl (hown7.alloc _) ⟨w7.heap.size, 0, none⟩ 1 1 [.int .i64 (m : Nat)] rfl rfl (cells_new _ _ _) (by simp [Value.oneCell']) (by unfold maxLen; omega) (by omega) (by simp; omega) ?_; intro v8 w8 hown8 hgrow8 hnil8; clear hnil8; have hD8 : Below wr.heap.size wr w8 := (hD7.alloc hsz7 _).grown hgrow8 (by simp; omega) (fun k e => (hown7.lt k e).1); clear hown7; have hsz8 := hD8.size; have hcD8 := HCD.out w8 hD8)
            | (at_builtin; refine wpList_append_own _ rfl _ _ 22 rfl wr.heap.size 3 i3 (.int .i64 0) 1 8 underInts hi hz0 hz1 hz2 rfl (by decide) _ _ _ rfl hown8 ⟨g, k, none⟩ (L.length - k) (cap - k) (dk.map fun x : Nat => Value.int .i64 (x : Int)) rfl (by simp [hdl]) hcD8 (by intro u hu; obtain ⟨y, _, rfl⟩ := List.mem_map.1 hu; rfl) (by unfold maxLen; omega) (by omega) hsz8 ?_; intro v9 w9 hown9 hgrow9 hnil9; clear hnil9; have hD9 : Below wr.heap.size wr w9 := hD8.grown hgrow9 hsz8 (fun k e => (hown8.lt k e).1)))
          go_ret2
          refine ⟨_, k, rfl, ?_, HPL.out, hB1.trans (hD9.mono hB1.size)⟩
          unfold insL
          rw [HT.out, HDK.out]
          have e9 : OwnInts w9 wr.heap.size v9 (tk ++ [m] ++ dk) := by
            unfold OwnInts
            rw [List.map_append, List.map_append, List.length_append, List.length_append, htl, hdl]
            simpa using hown9
          exact e9.zero
      · have hki : decide ((k : Int) < L.length) = false := decide_eq_false (by omega)
        have hk0 : (0 : Int) ≤ k := by omega
        have HPL : Hid (Place L m k) := ⟨hkl0, hpre, fun z hz => absurd (List.getElem?_eq_some_iff.1 hz).1 (by omega)⟩
        clear hpre
        obtain ⟨tk, htk⟩ : ∃ l, L.take k = l := ⟨_, rfl⟩
        obtain ⟨dk, hdk⟩ : ∃ l, L.drop k = l := ⟨_, rfl⟩
        have htl : tk.length = k := by rw [← htk, List.length_take]; omega
        have hdl : dk.length = L.length - k := by rw [← hdk, List.length_drop]
        have HT : Hid (L.take k = tk) := htk
        have HDK : Hid (L.drop k = dk) := hdk
        have hcT : ∀ W, Below wr.heap.size wr W → ∀ j v, (tk.map fun x : Nat => Value.int .i64 (x : Int))[j]? = some v → W.cell? ((⟨g, 0, none⟩ : Addr).add j) = some v := fun W hB j v hj => by
          rw [List.getElem?_map] at hj
          cases hx : tk[j]? with
          | none => rw [hx] at hj; cases hj
          | some x =>
            rw [hx] at hj
            injection hj with hj
            subst hj
            rw [add_plain, Nat.zero_add]
            have hjl := (List.getElem?_eq_some_iff.1 hx).1
            refine hcell W (hB1.trans (hB.mono hB1.size)) j x ?_
            rw [← htk, List.getElem?_take_of_lt (by omega)] at hx
            exact hx
        have hcD : ∀ W, Below wr.heap.size wr W → ∀ j v, (dk.map fun x : Nat => Value.int .i64 (x : Int))[j]? = some v → W.cell? ((⟨g, k, none⟩ : Addr).add j) = some v := fun W hB j v hj => by
          rw [List.getElem?_map] at hj
          cases hx : dk[j]? with
          | none => rw [hx] at hj; cases hj
          | some x =>
            rw [hx] at hj
            injection hj with hj
            subst hj
            rw [add_plain]
            refine hcell W (hB1.trans (hB.mono hB1.size)) (k + j) x ?_
            rw [← hdk, List.getElem?_drop] at hx
            exact hx
        have HCT : Hid _ := hcT
        have HCD : Hid _ := hcD
        have hT0 := hcT wr (Below.refl _ _)
        have hkc : (k : Int) ≤ cap := by omega
        have hkl : (k : Int) ≤ L.length := by omega
        have hcmi : (cap : Int) ≤ 9223372036854775807 := by unfold maxLen at hcm; omega
        clear hcT hcD hcell htk hdk hia
        have hsz1 := hB1.size
        have htm : tk.length ≤ 1000000 := by omega
        have hdm : dk.length ≤ 1000000 := by omega
        by_cases hck : cap = k
        · obtain rfl : k = cap := hck.symm
          clear hck
          go_wp2_with (first
            | (at_builtin; refine wpList_append_own _ rfl _ _ 22 rfl wr.heap.size 3 i3 (.int .i64 0) 1 8 underInts hi hz0 hz1 hz2 rfl (by decide) _ _ _ rfl (World.ownsRow_nil wr wr.heap.size 3 1) ⟨g, 0, none⟩ k k (tk.map fun x : Nat => Value.int .i64 (x : Int)) rfl (by simp [htl]) hT0 (by intro u hu; obtain ⟨y, _, rfl⟩ := List.mem_map.1 hu; rfl) (by unfold maxLen; omega) (by omega) (Nat.le_refl _) ?_; intro v7 w7 hown7 hgrow7 hnil7; clear hT0 hnil7; have hD7 : Below wr.heap.size wr w7 := (Below.refl _ wr).grown hgrow7 (Nat.le_refl _) (fun k e => (by cases e)); have hsz7 := hD7.size)
            | (at_builtin; refine wpList_append_own _ rfl _ _ 22 rfl wr.heap.size 3 i3 (.int .i64 0) 1 8 underInts hi hz0 hz1 hz2 rfl (by decide) _ _ _ rfl (hown7.alloc _) ⟨w7.heap.size, 0, none⟩ 1 1 [.int .i64 (m : Nat)] rfl rfl (cells_new _ _ _) (by simp [Value.oneCell']) (by unfold maxLen; omega) (by omega) (by simp; omega) ?_; intro v8 w8 hown8 hgrow8 hnil8; clear hnil8; have hD8 : Below wr.heap.size wr w8 := (hD7.alloc hsz7 _).grown hgrow8 (by simp; omega) (fun k e => (hown7.lt k e).1); clear hown7; have hsz8 := hD8.size; have hcD8 := HCD.out w8 hD8)
            | (at_builtin; refine wpList_append_own _ rfl _ _ 22 rfl wr.heap.size 3 i3 (.int .i64 0) 1 8 underInts hi hz0 hz1 hz2 rfl (by decide) _ _ _ rfl hown8 ⟨g, 0, none⟩ 0 0 [] rfl (by simp) (by simp) (by simp) (by unfold maxLen; omega) (by omega) hsz8 ?_; intro v9 w9 hown9 hgrow9 hnil9; clear hnil9; have hD9 : Below wr.heap.size wr w9 := hD8.grown hgrow9 hsz8 (fun k e => (hown8.lt k e).1)))
          go_ret2
          refine ⟨_, k, rfl, ?_, HPL.out, hB1.trans (hD9.mono hB1.size)⟩
          unfold insL
          rw [HT.out, HDK.out]
          have hd0 : dk = [] := List.eq_nil_of_length_eq_zero (by omega)
          have e9 : OwnInts w9 wr.heap.size v9 (tk ++ [m] ++ dk) := by
            rw [hd0]
            unfold OwnInts
            rw [List.append_nil, List.map_append, List.length_append, htl]
            simpa using hown9
          exact e9.zero
        · go_wp2_with (first
            | (at_builtin; refine wpList_append_own _ rfl _ _ 22 rfl wr.heap.size 3 i3 (.int .i64 0) 1 8 underInts hi hz0 hz1 hz2 rfl (by decide) _ _ _ rfl (World.ownsRow_nil wr wr.heap.size 3 1) ⟨g, 0, none⟩ k cap (tk.map fun x : Nat => Value.int .i64 (x : Int)) rfl (by simp [htl]) hT0 (by intro u hu; obtain ⟨y, _, rfl⟩ := List.mem_map.1 hu; rfl) (by unfold maxLen; omega) (by omega) (Nat.le_refl _) ?_; intro v7 w7 hown7 hgrow7 hnil7; clear hT0 hnil7; have hD7 : Below wr.heap.size wr w7 := (Below.refl _ wr).grown hgrow7 (Nat.le_refl _) (fun k e => (by cases e)); have hsz7 := hD7.size)
            | (at_builtin; refine wpList_append_own _ rfl _ _ 22 rfl wr.heap.size 3 i3 (.int .i64 0) 1 8 underInts hi hz0 hz1 hz2 rfl (by decide) _ _ _ rfl (hown7.alloc _) ⟨w7.heap.size, 0, none⟩ 1 1 [.int .i64 (m : Nat)] rfl rfl (cells_new _ _ _) (by simp [Value.oneCell']) (by unfold maxLen; omega) (by omega) (by simp; omega) ?_; intro v8 w8 hown8 hgrow8 hnil8; clear hnil8; have hD8 : Below wr.heap.size wr w8 := (hD7.alloc hsz7 _).grown hgrow8 (by simp; omega) (fun k e => (hown7.lt k e).1); clear hown7; have hsz8 := hD8.size; have hcD8 := HCD.out w8 hD8)
            | (at_builtin; refine wpList_append_own _ rfl _ _ 22 rfl wr.heap.size 3 i3 (.int .i64 0) 1 8 underInts hi hz0 hz1 hz2 rfl (by decide) _ _ _ rfl hown8 ⟨g, k, none⟩ (L.length - k) (cap - k) (dk.map fun x : Nat => Value.int .i64 (x : Int)) rfl (by simp [hdl]) hcD8 (by intro u hu; obtain ⟨y, _, rfl⟩ := List.mem_map.1 hu; rfl) (by unfold maxLen; omega) (by omega) hsz8 ?_; intro v9 w9 hown9 hgrow9 hnil9; clear hnil9; have hD9 : Below wr.heap.size wr w9 := hD8.grown hgrow9 hsz8 (fun k e => (hown8.lt k e).1)))
          go_ret2
          refine ⟨_, k, rfl, ?_, HPL.out, hB1.trans (hD9.mono hB1.size)⟩
          unfold insL
          rw [HT.out, HDK.out]
          have e9 : OwnInts w9 wr.heap.size v9 (tk ++ [m] ++ dk) := by
            unfold OwnInts
            rw [List.map_append, List.map_append, List.length_append, List.length_append, htl, hdl]
            simpa using hown9
          exact e9.zero

set_option maxRecDepth 100000 in
theorem qadd_no {w : World} {v : Value} {L : List Nat} (hv : OwnInts w 0 v L) (hln : L.length ≤ 1000000) (f : Int) (hno : f < 0 ∨ 2147483647 < f ∨ f ∈ L.map fun x : Nat => (x : Int)) :
    Calls Try.prog 35 #[v, .int .i64 f] w fun e w' => e = .returned (.tuple #[v, .bool false]) ∧ Below w.heap.size w w' := by
  obtain ⟨p0, c0, rfl, hia⟩ := hv.intsAt
  have hqh := qhas_any hia hln f
  clear hia hv
  generalize L.length = n0 at hqh
  by_cases h1 : f < 0
  · have hd1 : decide (f < 0) = true := decide_eq_true h1
    generalize decide (f ∈ L.map fun x : Nat => (x : Int)) = bb at hqh
    go_enter Try.func35, Try.ntmps35
    go_wp2_with (first
      | (go_at_call 59; refine hqh.mono ?_; rintro e w1 ⟨rfl, hB1⟩; clear hqh))
    go_ret2
    exact ⟨rfl, hB1⟩
  · have hd1 : decide (f < 0) = false := decide_eq_false h1
    by_cases h2 : 2147483647 < f
    · have hd2 : decide ((2147483647 : Int) < f) = true := decide_eq_true h2
      generalize decide (f ∈ L.map fun x : Nat => (x : Int)) = bb at hqh
      go_enter Try.func35, Try.ntmps35
      go_wp2_with (first
        | (go_at_call 59; refine hqh.mono ?_; rintro e w1 ⟨rfl, hB1⟩; clear hqh))
      go_ret2
      exact ⟨rfl, hB1⟩
    · have hd2 : decide ((2147483647 : Int) < f) = false := decide_eq_false h2
      have h3 := (hno.resolve_left h1).resolve_left h2
      rw [decide_eq_true h3] at hqh
      clear h3 hno
      go_enter Try.func35, Try.ntmps35
      go_wp2_with (first
        | (go_at_call 59; refine hqh.mono ?_; rintro e w1 ⟨rfl, hB1⟩; clear hqh))
      go_ret2
      exact ⟨rfl, hB1⟩
end Go.Proofs.Ytiokbhbggpibpaa
