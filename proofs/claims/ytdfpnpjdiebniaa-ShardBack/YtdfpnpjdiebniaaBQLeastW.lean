/-
  The document's Least.
-/
import Derived.Test.YtdfpnpjdiebniaaBQSetW
namespace Go.Proofs.Ytdfpnpjdiebniaa
open Go Go.RowKit Go.Maps

/-- The first of them, if there is one. -/
def firstV (F : List Nat) : Value := match F with
  | [] => .tuple #[.int .i64 0, .bool false]
  | x :: _ => .tuple #[.int .i64 (x : Nat), .bool true]
set_option maxRecDepth 100000 in
theorem qleast_any {w : World} {p : Option Addr} {n c : Nat} {L : List Nat} (hv : IntsAt w (.slice p n c) (L.map fun x : Nat => (x : Int))) (hln : L.length ≤ 1000000) (f : Int) :
    Calls Try.prog 43 #[.slice p n c, .int .i64 f] w fun e w' => e = .returned (firstV (L.filter fun x : Nat => decide (f ≤ (x : Int)))) ∧ Below w.heap.size w w' := by
  have hqf := qfrom_any hv hln f
  have hFl : (L.filter fun x : Nat => decide (f ≤ (x : Int))).length ≤ 1000000 := Nat.le_trans (List.length_filter_le _ _) hln
  generalize L.filter (fun x : Nat => decide (f ≤ (x : Int))) = F at hqf hFl
  cases F with
  | nil =>
    go_enter Try.func43, Try.ntmps43
    go_wp2_with (first
      | (go_at_call 63; refine hqf.mono ?_; rintro e w1 ⟨v, rfl, hown, hB1⟩; obtain ⟨p1, c1, rfl, hia⟩ := hown.intsAt; have hl0 : ([] : List Nat).length = 0 := rfl; rw [hl0] at hia))
    go_ret2
    exact ⟨rfl, hB1⟩
  | cons x t =>
    have hlp : (0 : Int) < (x :: t).length := by simp
    have hlq : (((x :: t).length : Int) == 0) = false := beq_eq_false_iff_ne.2 (by omega)
    generalize hm : (x :: t).length = m at hlp hlq hFl
    have HM : Hid ((x :: t).length = m) := hm
    go_enter Try.func43, Try.ntmps43
    go_wp2_with (first
      | (go_at_call 63; refine hqf.mono ?_; rintro e w1 ⟨v, rfl, hown, hB1⟩; obtain ⟨p1, c1, rfl, hia⟩ := hown.intsAt; obtain ⟨g, o, rfl, hcell⟩ := hia.nat (by simp); have hc0 := hcell w1 (Below.refl _ _) 0 x rfl; rw [Nat.add_zero] at hc0; rw [HM.out]; clear hcell hia hown hqf))
    go_ret2
    exact ⟨rfl, hB1⟩
end Go.Proofs.Ytdfpnpjdiebniaa
