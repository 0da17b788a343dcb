/-
  What readList does.
-/
import Derived.Test.YtiokbhbggpibpaaBGA
import Derived.Test.YtiokbhbggpibpaaBGE
import Derived.Laws.ResultCell
import Derived.WalkSmall
import Derived.Maps.RangeWalk
namespace Go.Proofs.Ytiokbhbggpibpaa
open Go Go.RowKit

/-- A text's bytes as numbers. -/
def numsB (x : ByteArray) : List Nat := x.data.toList.map UInt8.toNat
theorem numsB_len (x : ByteArray) : (numsB x).length = x.size := by unfold numsB; rw [List.length_map, Array.length_toList]; rfl
theorem numsB_get (x : ByteArray) (i : Nat) (h : i < x.size) : (numsB x)[i]? = some (x[i]).toNat := by
  unfold numsB
  rw [List.getElem?_map, List.getElem?_eq_getElem (by simpa using h)]
  rfl
/-- Do they rise? -/
def Rises (l : List Nat) : Prop := l.Pairwise (· < ·)
theorem rises_snoc {l : List Nat} {a b : Nat} (h : Rises (l ++ [a])) (hab : a < b) : Rises (l ++ [a] ++ [b]) := by
  unfold Rises at *
  rw [List.pairwise_append]
  refine ⟨h, by simp, fun x hx y hy => ?_⟩
  simp at hy
  subst hy
  rcases List.mem_append.1 hx with q | q
  · have := (List.pairwise_append.1 h).2.2 x q a (by simp); omega
  · simp at q; omega
theorem take_snoc {l : List Nat} {i a : Nat} (h : l[i]? = some a) : l.take (i + 1) = l.take i ++ [a] := by
  have hi := (List.getElem?_eq_some_iff.1 h).1
  rw [List.take_succ_eq_append_getElem hi]
  rw [List.getElem?_eq_getElem hi] at h
  injection h with h
  rw [h]
theorem rises_step {l : List Nat} {i a b : Nat} (hi : l[i]? = some a) (hj : l[i + 1]? = some b) (h : Rises (l.take (i + 1))) (hab : a < b) : Rises (l.take (i + 1 + 1)) := by
  rw [take_snoc hj]
  rw [take_snoc hi] at h ⊢
  exact rises_snoc h hab
theorem rises_not {l : List Nat} {i a b : Nat} (hi : l[i]? = some a) (hj : l[i + 1]? = some b) (hab : b ≤ a) : ¬ Rises l := fun h => by
  have h1 : i < l.length := (List.getElem?_eq_some_iff.1 hi).1
  have h2 : i + 1 < l.length := (List.getElem?_eq_some_iff.1 hj).1
  have := List.pairwise_iff_getElem.1 h i (i + 1) h1 h2 (by omega)
  rw [List.getElem?_eq_getElem h1] at hi
  rw [List.getElem?_eq_getElem h2] at hj
  injection hi with hi
  injection hj with hj
  omega
theorem rises_one {l : List Nat} : Rises (l.take 1) := by
  cases l <;> simp [Rises]

theorem results_contT {fn : Func} {p u : Tmp} (h : fn.results = #[.cell p 76, .tmp u]) (tmps : Array Value) (w : World) (b : Nat) (t : TypeId) (q : Nat → Bool) (v : Value)
    (hp : tmps.getD p undef = .pointer (some ⟨b, 0, none⟩)) (hv : tmps.getD u undef = v) (hh : Holds w b t (contA q)) : (results fn tmps).run Try.prog w = .ok (.tuple #[.agg (contA q), v]) w := by
  rw [results_cell_tmp h, hp, hv]
  have hr := run_loadVar_row (P := Try.prog) w b t 76 (contA q) (0, 0) _ hh Try.underlying76 rfl (infoC q)
  simp [asAddr, hr]

/-- What readList answers. -/
def listV (l : List Nat) (v : Value) : Prop := (Rises l ∧ v = .tuple #[.agg (contA (ofList l)), .bool true]) ∨ (¬ Rises l ∧ v = .tuple #[.agg (contA fun _ => false), .bool false])

theorem wpQ_ldK {ops : Array Oper} {rest : List Oper} {op : Oper} {a : Act} {C : World → Prop} {Q : Act → Prop} (hgd : op.guard = none) (x : Operand) (ho : op.op = .load 76 x)
    {b : Nat} (hx : a.eval x = .pointer (some ⟨b, 0, none⟩)) {t : TypeId} {cs : Array Value} (hh : ∀ w, C w → Holds w b t cs) (hc : IsC cs)
    (h : wpQuiet Try.prog ops C Q rest (a.put op.dst (.agg cs))) : wpQuiet Try.prog ops C Q (op :: rest) a := by
  obtain ⟨p, rfl⟩ := hc
  exact wpQ_ldC hgd x ho hx hh h

set_option maxRecDepth 100000 in
set_option maxHeartbeats 2000000 in
theorem readL_any (x : ByteArray) (w : World) (hx : x.size ≤ 2147483648) : Calls Try.prog 70 #[.string x] w fun e w' => ∃ v, e = .returned v ∧ listV (numsB x) v ∧ Below w.heap.size w w' := by
  obtain ⟨W0, hW⟩ : ∃ W0, World.alloc (World.alloc w (.cells (contA fun _ => false) 76)) (.cells (contA fun _ => false) 76) = W0 := ⟨_, rfl⟩
  have h1 : Holds W0 w.heap.size 76 (contA fun _ => false) := by rw [← hW]; exact (Holds.new _ _ _).alloc _
  have h2 : Holds W0 (w.heap.size + 1) 76 (contA (ofList ((numsB x).take 0))) := by
    rw [← hW, List.take_zero, ofList_nil]; exact holds_new1 _ _ _ _
  have hB : Below w.heap.size w W0 := by rw [← hW]; exact below_new2 _ _ _
  rw [zeroC] at hW
  go_enter Try.func70, Try.ntmps70
  go_wp2_with fail
  clear hW
  go_loopw [8] (fun y wr => ∃ i : Nat, y = .int .i64 (i : Nat) ∧ i ≤ x.size ∧ Holds wr w.heap.size 76 (contA fun _ => false) ∧ Holds wr (w.heap.size + 1) 76 (contA (ofList ((numsB x).take i))) ∧ Rises ((numsB x).take i) ∧ Below w.heap.size w wr) (fun y _ => x.size - (intOf y).toNat)
  case atStart => exact ⟨0, rfl, Nat.zero_le _, h1, h2, by simp [Rises], hB⟩
  case round =>
    obtain ⟨i, rfl, hi, k1, k2, k3, k4⟩ := hrel
    clear h1 h2 hB
    by_cases hlt : i < x.size
    · have hii : (i : Int) < x.size := by omega
      have hil : (i : Int) < 2147483648 := by omega
      have hi0 : (0 : Int) ≤ i := by omega
      have hgi := numsB_get x i hlt
      have hti := take_snoc hgi
      have hwi := fun W => with_any (ofList ((numsB x).take i)) (x[i]).toNat W (x[i]).toNat_lt
      rw [ofList_snoc, ← hti] at hwi
      have hxl := (x[i]).toNat_lt
      have hwx : IntKind.i64.wrap ((x[i]).toNat : Int) = (x[i]).toNat := by rw [IntKind.wrap_i64]; omega
      have hwx2 : wrap64 ((x[i]).toNat : Int) = (x[i]).toNat := by unfold wrap64; omega
      have hC := IsC.mk (ofList ((numsB x).take i))
      have hC2 := IsC.mk (ofList ((numsB x).take (i + 1)))
      generalize hcs : contA (ofList ((numsB x).take i)) = cs at k2 hwi hC
      generalize hcs2 : contA (ofList ((numsB x).take (i + 1))) = cs2 at hwi hC2
      have HC2 : Hid (contA (ofList ((numsB x).take (i + 1))) = cs2) := hcs2
      clear hcs hcs2 hti
      by_cases hz : i = 0
      · subst hz
        rw [show ((0 : Nat) : Int) = 0 from rfl] at hii ⊢
        clear hi0 hil
        go_wp2_with fail
        go_quiet (fail)
        go_wp2_with fail
        refine wp_region_qtail 5 mixedP (by kernel_rfl) ?_
        simp only [List.take_succ_cons, List.take_zero, List.drop_succ_cons, List.drop_zero]
        refine wpQ_ldK rfl _ rfl rfl (fun w' hw' => by subst hw'; exact (k2.drewN nq).drew) hC ?_
        go_frame
        go_big_quiet_step (fail)
        go_big_quiet_step (fail)
        go_big_quiet_step (fail)
        go_big_quiet_step (fail)
        refine wpQuiet_nil ?_
        go_wp2_with (first
          | (go_at_call 47; refine (hwi _).mono ?_; rintro e w5 ⟨rfl, hB5⟩; have k25 := below_holds hB5 (k2.drewN nq).drew)
          | (refine wpList_stK rfl _ _ rfl rfl rfl k25 hC2 hC ?_; intro W6 h6 hO6 hS6))
        have k16 := hO6.holds (below_holds hB5 (k1.drewN nq).drew) (by omega)
        have hB6 : Below w.heap.size w W6 := Only.fresh ((below_drewN k4 nq).drew.trans (hB5.mono k4.size)) hO6 (by omega)
        go_roundw
        case rel => exact ⟨0 + 1, by simp, by omega, k16, by rw [HC2.out]; exact h6, rises_one, hB6⟩
        case measure => simp [intOf]; omega
      · have hpos : (0 : Int) < i := by omega
        have hpos' : 0 < i := by omega
        obtain ⟨j, hj⟩ : ∃ j, i = j + 1 := ⟨i - 1, by omega⟩
        have hw : IntKind.i64.wrap ((i : Int) - 1) = (j : Int) := by rw [show (i : Int) - 1 = j by omega]; rw [IntKind.wrap_i64]; omega
        have hjl : j < x.size := by omega
        have hji : (j : Int) < x.size := by omega
        have hj0 : (0 : Int) ≤ j := by omega
        have hgj := numsB_get x j hjl
        have HJ : Hid (i = j + 1) := hj
        clear hj
        by_cases hle : (x[i]).toNat ≤ (x[j]).toNat
        · have hnr : ¬ Rises (numsB x) := rises_not hgj (by rw [← HJ.out]; exact hgi) hle
          have hle' : ((x[i]).toNat : Int) ≤ (x[j]).toNat := by omega
          clear hgi hgj
          go_wp2_with fail
          go_quiet (fail)
          go_wp2_with (first
            | (refine wpList_stC (q := fun _ => false) rfl _ _ rfl rfl (by rw [zeroC]; rfl) (k1.drewN nq) ?_; intro W3 h5 hO hS))
          refine bodyPost_ret (results_contT rfl _ _ _ _ _ _ rfl rfl h5) rfl ?_
          exact ⟨_, rfl, .inr ⟨hnr, rfl⟩, Only.fresh (below_drewN k4 nq) hO (Nat.le_refl _)⟩
        · have hle' : ¬ ((x[i]).toNat : Int) ≤ (x[j]).toNat := by omega
          have hri : Rises (List.take (i + 1) (numsB x)) := by
            have := HJ.out
            subst this
            exact rises_step hgj hgi k3 (by omega)
          clear hgi hgj
          go_wp2_with fail
          go_quiet (fail)
          go_wp2_with fail
          refine wp_region_qtail 5 mixedP (by kernel_rfl) ?_
          simp only [List.take_succ_cons, List.take_zero, List.drop_succ_cons, List.drop_zero]
          refine wpQ_ldK rfl _ rfl rfl (fun w' hw' => by subst hw'; exact (k2.drewN nq).drew) hC ?_
          go_frame
          go_big_quiet_step (fail)
          go_big_quiet_step (fail)
          go_big_quiet_step (fail)
          go_big_quiet_step (fail)
          refine wpQuiet_nil ?_
          go_wp2_with (first
            | (go_at_call 47; refine (hwi _).mono ?_; rintro e w5 ⟨rfl, hB5⟩; have k25 := below_holds hB5 (k2.drewN nq).drew)
            | (refine wpList_stK rfl _ _ rfl rfl rfl k25 hC2 hC ?_; intro W6 h6 hO6 hS6))
          have k16 := hO6.holds (below_holds hB5 (k1.drewN nq).drew) (by omega)
          have hB6 : Below w.heap.size w W6 := Only.fresh ((below_drewN k4 nq).drew.trans (hB5.mono k4.size)) hO6 (by omega)
          go_roundw
          case rel => exact ⟨i + 1, by simp, by omega, k16, by rw [HC2.out]; exact h6, hri, hB6⟩
          case measure => simp [intOf]; omega
    · have hii : ¬ (i : Int) < x.size := by omega
      obtain rfl : i = x.size := by omega
      rw [← numsB_len, List.take_length] at k2 k3
      go_wp2_with (first
        | (refine wpList_ldC rfl _ rfl rfl k2 ?_)
        | (refine wpList_stC rfl _ _ rfl rfl rfl k1 ?_; intro W3 h5 hO hS))
      refine bodyPost_ret (results_contT rfl _ _ _ _ _ _ rfl rfl h5) rfl ?_
      exact ⟨_, rfl, .inl ⟨k3, rfl⟩, Only.fresh k4 hO (Nat.le_refl _)⟩
end Go.Proofs.Ytiokbhbggpibpaa
