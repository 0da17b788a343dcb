/-
  The document's Has, Cut, From, Least.
-/
import Derived.Test.YtdfpnpjdiebniaaBQReadW
namespace Go.Proofs.Ytdfpnpjdiebniaa
open Go Go.RowKit Go.Maps

set_option maxRecDepth 100000 in
theorem qhas_any {w : World} {p : Option Addr} {n c : Nat} {L : List Nat} (hv : IntsAt w (.slice p n c) (L.map fun x : Nat => (x : Int))) (hln : L.length ≤ 1000000) (f : Int) :
    Calls Try.prog 59 #[.slice p n c, .int .i64 f] w fun e w' => e = .returned (.bool (decide (f ∈ L.map fun x : Nat => (x : Int)))) ∧ Below w.heap.size w w' := by
  have hlen : L.length = n := by have := hv.len; simpa using this
  go_enter Try.func59, Try.ntmps59
  go_wp2_with fail
  go_loopw [5] (fun y wr => ∃ i : Nat, y = .int .i64 (i : Nat) ∧ i ≤ L.length ∧ (∀ x ∈ L.take i, (x : Int) ≠ f) ∧ wr = w) (fun y _ => L.length - (intOf y).toNat)
  case atStart => exact ⟨0, rfl, Nat.zero_le _, by simp, rfl⟩
  case round =>
    obtain ⟨i, rfl, hil, hno, rfl⟩ := hrel
    by_cases hlt : i < L.length
    · obtain ⟨g, o, rfl, hcell⟩ := hv.nat (by omega)
      have hlti : (i : Int) < n := by omega
      have hi0 : (0 : Int) ≤ i := by omega
      obtain ⟨x, hx⟩ : ∃ x, L[i]? = some x := ⟨_, List.getElem?_eq_getElem hlt⟩
      have hc := hcell wr (Below.refl _ _) i x hx
      have hj1 : i + 1 ≤ L.length := hlt
      have hjm : L.length - (i + 1) < L.length - i := by omega
      have HX : Hid (L[i]? = some x) := hx
      have HNO : Hid (∀ x ∈ L.take i, (x : Int) ≠ f) := hno
      clear hcell hx hno
      by_cases hxf : (x : Int) = f
      · have hq : ((x : Int) == f) = true := by simp [hxf]
        have HM : Hid (f ∈ L.map fun x : Nat => (x : Int)) := List.mem_map.2 ⟨x, List.mem_of_getElem? HX.out, hxf⟩
        clear hxf
        go_wp2_with fail
        go_ret
        exact ⟨by rw [decide_eq_true HM.out]; rfl, Below.refl _ _⟩
      · have hq : ((x : Int) == f) = false := beq_eq_false_iff_ne.2 hxf
        have HN2 : Hid (∀ y ∈ L.take (i + 1), (y : Int) ≠ f) := (by
          intro y hy
          rw [take_snoc HX.out, List.mem_append] at hy
          rcases hy with hy | hy
          · exact HNO.out y hy
          · rw [List.mem_singleton.1 hy]; exact hxf)
        clear hxf
        go_wp2_with fail
        exact ⟨⟨i + 1, by simp, hj1, HN2.out, by first | rfl | trivial⟩, by rw [toNat_succ, toNat_self]; exact hjm⟩
    · obtain rfl : i = L.length := by omega
      have hli : decide ((L.length : Int) < n) = false := decide_eq_false (by omega)
      rw [List.take_length] at hno
      have HM : Hid (¬ f ∈ L.map fun x : Nat => (x : Int)) := fun h => by
        obtain ⟨x, hx, e⟩ := List.mem_map.1 h
        exact hno x hx e
      clear hno
      go_wp2_with fail
      go_ret
      exact ⟨by rw [decide_eq_false HM.out]; rfl, Below.refl _ _⟩

set_option maxRecDepth 100000 in
set_option maxHeartbeats 2000000 in
theorem qcut_any {w : World} {p : Option Addr} {n c : Nat} {L : List Nat} (hv : IntsAt w (.slice p n c) (L.map fun x : Nat => (x : Int))) (hln : L.length ≤ 1000000) (f : Int) :
    Calls Try.prog 41 #[.slice p n c, .int .i64 f] w fun e w' => ∃ v, e = .returned v ∧ OwnInts w' w.heap.size v (L.filter fun x : Nat => decide ((x : Int) < f)) ∧ Below w.heap.size w w' := by
  have hlen : L.length = n := by have := hv.len; simpa using this
  obtain ⟨i3, hi, hz0, hz1, hz2⟩ := info_parts info3
  go_enter Try.func41, Try.ntmps41
  go_wp2_with fail
  go_loopw [5, 6] (fun ov y wr => ∃ i : Nat, y = .int .i64 (i : Nat) ∧ i ≤ L.length ∧ OwnInts wr w.heap.size ov ((L.take i).filter fun x : Nat => decide ((x : Int) < f)) ∧ Below w.heap.size w wr) (fun _ y _ => L.length - (intOf y).toNat)
  case atStart => exact ⟨0, rfl, Nat.zero_le _, World.ownsRow_nil _ _ _ _, Below.refl _ _⟩
  case round =>
    obtain ⟨i, rfl, hil, hownq, hBr⟩ := hrel
    have hszq := hBr.size
    by_cases hlt : i < L.length
    · obtain ⟨g, o, rfl, hcell⟩ := hv.nat (by omega)
      have hlti : (i : Int) < n := by omega
      have hi0 : (0 : Int) ≤ i := by omega
      obtain ⟨x, hx⟩ : ∃ x, L[i]? = some x := ⟨_, List.getElem?_eq_getElem hlt⟩
      have hc := hcell wr hBr i x hx
      have hj1 : i + 1 ≤ L.length := hlt
      have hjm : L.length - (i + 1) < L.length - i := by omega
      have hfl : ((L.take i).filter fun x : Nat => decide ((x : Int) < f)).length ≤ 1000000 := Nat.le_trans (List.length_filter_le _ _) (by rw [List.length_take]; omega)
      by_cases hxf : (x : Int) < f
      · have HSN : Hid ((L.take (i + 1)).filter (fun x : Nat => decide ((x : Int) < f)) = (L.take i).filter (fun x : Nat => decide ((x : Int) < f)) ++ [x]) := (by
          show (L.take (i + 1)).filter _ = _
          rw [take_snoc hx, List.filter_append]
          congr 1
          simp [hxf])
        have hxi : (x : Int) < f := hxf
        generalize (L.take i).filter (fun x : Nat => decide ((x : Int) < f)) = Z at hownq hfl HSN
        clear hcell hx
        go_wp2_with (first
          | (at_builtin; refine wpList_append_own _ rfl _ _ 22 rfl w.heap.size 3 i3 (.int .i64 0) 1 8 underInts hi hz0 hz1 hz2 rfl (by decide) _ _ _ rfl (hownq.alloc _) ⟨wr.heap.size, 0, none⟩ 1 1 [.int .i64 (x : Nat)] rfl rfl (cells_new _ _ _) (by simp [Value.oneCell']) (by unfold maxLen; omega) (by omega) (by simp; omega) ?_; intro v6 w6 hown7 hgrow7 hnil7))
        refine ⟨⟨i + 1, by simp, hj1, ?_, (hBr.alloc hszq _).grown hgrow7 (by simp; omega) (fun k e => (World.ownsRow.lt hownq k e).1)⟩, by rw [toNat_succ, toNat_self]; exact hjm⟩
        rw [HSN.out]
        unfold OwnInts
        rw [List.length_append, List.map_append]
        exact hown7
      · have HSN : Hid ((L.take (i + 1)).filter (fun x : Nat => decide ((x : Int) < f)) = (L.take i).filter (fun x : Nat => decide ((x : Int) < f))) := (by
          show (L.take (i + 1)).filter _ = _
          rw [take_snoc hx, List.filter_append]
          simp [hxf])
        have hxi : decide ((x : Int) < f) = false := decide_eq_false hxf
        clear hcell hx
        go_wp2_with fail
        exact ⟨⟨i + 1, by simp, hj1, by rw [HSN.out]; exact hownq, hBr⟩, by rw [toNat_succ, toNat_self]; exact hjm⟩
    · obtain rfl : i = L.length := by omega
      have hli : decide ((L.length : Int) < n) = false := decide_eq_false (by omega)
      rw [List.take_length] at hownq
      go_wp2_with fail
      go_ret
      exact ⟨_, rfl, hownq, hBr⟩

set_option maxRecDepth 100000 in
set_option maxHeartbeats 2000000 in
theorem qfrom_any {w : World} {p : Option Addr} {n c : Nat} {L : List Nat} (hv : IntsAt w (.slice p n c) (L.map fun x : Nat => (x : Int))) (hln : L.length ≤ 1000000) (f : Int) :
    Calls Try.prog 63 #[.slice p n c, .int .i64 f] w fun e w' => ∃ v, e = .returned v ∧ OwnInts w' w.heap.size v (L.filter fun x : Nat => decide (f ≤ (x : Int))) ∧ Below w.heap.size w w' := by
  have hlen : L.length = n := by have := hv.len; simpa using this
  obtain ⟨i3, hi, hz0, hz1, hz2⟩ := info_parts info3
  go_enter Try.func63, Try.ntmps63
  go_wp2_with fail
  go_loopw [5, 6] (fun ov y wr => ∃ i : Nat, y = .int .i64 (i : Nat) ∧ i ≤ L.length ∧ OwnInts wr w.heap.size ov ((L.take i).filter fun x : Nat => decide (f ≤ (x : Int))) ∧ Below w.heap.size w wr) (fun _ y _ => L.length - (intOf y).toNat)
  case atStart => exact ⟨0, rfl, Nat.zero_le _, World.ownsRow_nil _ _ _ _, Below.refl _ _⟩
  case round =>
    obtain ⟨i, rfl, hil, hownq, hBr⟩ := hrel
    have hszq := hBr.size
    by_cases hlt : i < L.length
    · obtain ⟨g, o, rfl, hcell⟩ := hv.nat (by omega)
      have hlti : (i : Int) < n := by omega
      have hi0 : (0 : Int) ≤ i := by omega
      obtain ⟨x, hx⟩ : ∃ x, L[i]? = some x := ⟨_, List.getElem?_eq_getElem hlt⟩
      have hc := hcell wr hBr i x hx
      have hj1 : i + 1 ≤ L.length := hlt
      have hjm : L.length - (i + 1) < L.length - i := by omega
      have hfl : ((L.take i).filter fun x : Nat => decide (f ≤ (x : Int))).length ≤ 1000000 := Nat.le_trans (List.length_filter_le _ _) (by rw [List.length_take]; omega)
      by_cases hxf : f ≤ (x : Int)
      · have HSN : Hid ((L.take (i + 1)).filter (fun x : Nat => decide (f ≤ (x : Int))) = (L.take i).filter (fun x : Nat => decide (f ≤ (x : Int))) ++ [x]) := (by
          show (L.take (i + 1)).filter _ = _
          rw [take_snoc hx, List.filter_append]
          congr 1
          simp [hxf])
        have hxi : f ≤ (x : Int) := hxf
        generalize (L.take i).filter (fun x : Nat => decide (f ≤ (x : Int))) = Z at hownq hfl HSN
        clear hcell hx
        go_wp2_with (first
          | (at_builtin; refine wpList_append_own _ rfl _ _ 22 rfl w.heap.size 3 i3 (.int .i64 0) 1 8 underInts hi hz0 hz1 hz2 rfl (by decide) _ _ _ rfl (hownq.alloc _) ⟨wr.heap.size, 0, none⟩ 1 1 [.int .i64 (x : Nat)] rfl rfl (cells_new _ _ _) (by simp [Value.oneCell']) (by unfold maxLen; omega) (by omega) (by simp; omega) ?_; intro v6 w6 hown7 hgrow7 hnil7))
        refine ⟨⟨i + 1, by simp, hj1, ?_, (hBr.alloc hszq _).grown hgrow7 (by simp; omega) (fun k e => (World.ownsRow.lt hownq k e).1)⟩, by rw [toNat_succ, toNat_self]; exact hjm⟩
        rw [HSN.out]
        unfold OwnInts
        rw [List.length_append, List.map_append]
        exact hown7
      · have HSN : Hid ((L.take (i + 1)).filter (fun x : Nat => decide (f ≤ (x : Int))) = (L.take i).filter (fun x : Nat => decide (f ≤ (x : Int)))) := (by
          show (L.take (i + 1)).filter _ = _
          rw [take_snoc hx, List.filter_append]
          simp [hxf])
        have hxi : decide (f ≤ (x : Int)) = false := decide_eq_false hxf
        clear hcell hx
        go_wp2_with fail
        exact ⟨⟨i + 1, by simp, hj1, by rw [HSN.out]; exact hownq, hBr⟩, by rw [toNat_succ, toNat_self]; exact hjm⟩
    · obtain rfl : i = L.length := by omega
      have hli : decide ((L.length : Int) < n) = false := decide_eq_false (by omega)
      rw [List.take_length] at hownq
      go_wp2_with fail
      go_ret
      exact ⟨_, rfl, hownq, hBr⟩

end Go.Proofs.Ytdfpnpjdiebniaa
