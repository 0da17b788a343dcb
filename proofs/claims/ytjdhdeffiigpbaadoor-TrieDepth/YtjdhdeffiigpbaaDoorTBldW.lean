/-
  What a builder tells of what it refuses, and the first pair that it takes.
-/
import Derived.Test.YtjdhdeffiigpbaaDoorTRootW
import Derived.Laws.Pointers
namespace Go.Proofs.YtjdhdeffiigpbaaDoor
open Go Go.RowKit Nb

theorem eqlB (p : Option Addr) (w : World) : (binOp .eql 37 (.pointer p) (.pointer none)).run Tryd.prog w = .ok (.bool p.isNone) w := run_eql_pointer_nil (P := Tryd.prog) w 37 p (by kernel_rfl)
def bcells (n : Nat) (k v : ByteArray) (top : Option Addr) : Array Value := #[.int .i64 (n : Nat), .string k, .string v, .pointer top]
theorem infoBld : (Tryd.prog.info? 50).map (·.size) = some 4 := by kernel_rfl
/-- What a builder takes. -/
def addOk (n : Nat) (last k v : ByteArray) : Bool := !(v.size == 0) && (rightL k.data.toList && (n == 0 || folB last k))
section
variable {w : World} {b n : Nat} {k v : ByteArray} {top : Option Addr}
set_option maxRecDepth 4000 in
theorem len_any (h : K.Holds w b 50 (bcells n k v top)) : Calls Tryd.prog 21 #[.pointer (some ⟨b, 0, none⟩)] w fun e w' => e = .returned (.int .i64 (n : Nat)) ∧ w' = w := by
  have hq := eqlB
  have c0 : w.cell? ⟨b, 0, none⟩ = some (.int .i64 (n : Nat)) := h.cell 0
  go_enter Tryd.func21, Tryd.ntmps21
  go_wp2_with fail
  go_ret
  exact ⟨rfl, rfl⟩
set_option maxRecDepth 4000 in
theorem len_nil (w : World) : Calls Tryd.prog 21 #[.pointer none] w fun e w' => e = .returned (.int .i64 0) ∧ w' = w := by
  have hq := eqlB
  go_enter Tryd.func21, Tryd.ntmps21
  go_wp2_with fail
  go_ret
  exact ⟨rfl, rfl⟩
set_option maxRecDepth 4000 in
theorem add_nil (k v : ByteArray) (w : World) : Calls Tryd.prog 20 #[.pointer none, .string k, .string v] w fun e w' => e = .returned (.int .i64 1) ∧ w' = w := by
  have hq := eqlB
  go_enter Tryd.func20, Tryd.ntmps20
  go_wp2_with fail
  go_ret
  exact ⟨rfl, rfl⟩
set_option maxRecDepth 8000 in
/-- What is refused leaves all as it is. -/
theorem add_no (x y : ByteArray) (h : K.Holds w b 50 (bcells n k v top)) (hx : x.size ≤ 1000000) (hno : addOk n k x y = false) :
    Calls Tryd.prog 20 #[.pointer (some ⟨b, 0, none⟩), .string x, .string y] w fun e w' => e = .returned (.int .i64 1) ∧ w' = w := by
  have hq := eqlB
  have c0 : w.cell? ⟨b, 0, none⟩ = some (.int .i64 (n : Nat)) := h.cell 0
  have c1 : w.cell? ⟨b, 1, none⟩ = some (.string k) := h.cell 1
  by_cases hy : y.size = 0
  · have ey := isEmpty0 y hy
    clear hno
    go_enter Tryd.func20, Tryd.ntmps20
    go_wp2_with fail
    go_ret
    exact ⟨rfl, rfl⟩
  · have ey := notEmpty y hy
    have hrt := right_any x w (by omega)
    cases hr : rightL x.data.toList with
    | false =>
      rw [hr] at hrt
      clear hno
      go_enter Tryd.func20, Tryd.ntmps20
      go_wp2_with fail
      refine hrt.mono ?_
      rintro e w1 ⟨rfl, rfl⟩
      go_wp2_with fail
      go_ret
      exact ⟨rfl, rfl⟩
    | true =>
      rw [hr] at hrt
      have hf : n ≠ 0 ∧ folB k x = false := by
        unfold addOk at hno
        rw [hr, show (y.size == 0) = false from beq_eq_false_iff_ne.2 hy] at hno
        simpa using hno
      have hfl := follows_any k x w
      rw [hf.2] at hfl
      have hn : (n : Int) > 0 := by omega
      clear hno hf
      go_enter Tryd.func20, Tryd.ntmps20
      go_wp2_with fail
      refine hrt.mono ?_
      rintro e w1 ⟨rfl, rfl⟩
      go_wp2_with fail
      refine hfl.mono ?_
      rintro e w1 ⟨rfl, rfl⟩
      go_wp2_with fail
      go_ret
      exact ⟨rfl, rfl⟩
set_option maxRecDepth 8000 in
/-- The first pair. -/
theorem add_first (x y : ByteArray) (h : K.Holds w b 50 (bcells 0 k v top)) (hx : x.size ≤ 1000000) (hy : y.size ≠ 0) (hr : rightL x.data.toList = true) :
    Calls Tryd.prog 20 #[.pointer (some ⟨b, 0, none⟩), .string x, .string y] w fun e w' => e = .returned (.int .i64 0) ∧ K.Holds w' b 50 (bcells 1 x y top) ∧ K.Only b w w' := by
  have hq := eqlB
  have c0 : w.cell? ⟨b, 0, none⟩ = some (.int .i64 ((0 : Nat) : Int)) := h.cell 0
  have c1 : w.cell? ⟨b, 1, none⟩ = some (.string k) := h.cell 1
  have c2 : w.cell? ⟨b, 2, none⟩ = some (.string v) := h.cell 2
  have f0 := h.frozen 0
  have f1 := h.frozen 1
  have f2 := h.frozen 2
  have ey := notEmpty y hy
  have hrt := right_any x w (by omega)
  rw [hr] at hrt
  have HF : Hid (K.Holds (((w.setCell ⟨b, 1, none⟩ (.string x)).setCell ⟨b, 2, none⟩ (.string y)).setCell ⟨b, 0, none⟩ (.int .i64 1)) b 50 (bcells 1 x y top) ∧ K.Only b w (((w.setCell ⟨b, 1, none⟩ (.string x)).setCell ⟨b, 2, none⟩ (.string y)).setCell ⟨b, 0, none⟩ (.int .i64 1))) :=
    ⟨(((h.set 1 (.string x)).set 2 (.string y)).set 0 (.int .i64 1)).congr rfl, (((K.Only.refl b w).set 1 _).set 2 _).set 0 _⟩
  clear hy hr h
  go_enter Tryd.func20, Tryd.ntmps20
  go_wp2_with fail
  refine hrt.mono ?_
  rintro e w1 ⟨rfl, rfl⟩
  go_wp2_with fail
  go_ret
  exact ⟨rfl, HF.out⟩
end
set_option maxRecDepth 4000 in
theorem rootb_none (pv : Value) (w : World) (hT : K.Tabs w) (hln : ∀ w0, Below w.heap.size w w0 → Calls Tryd.prog 21 #[pv] w0 fun e w' => e = .returned (.int .i64 0) ∧ w' = w0) :
    Calls Tryd.prog 22 #[pv] w fun e w' => e = .returned (.agg (K.bytesA 32 (K.hashOf [128]))) ∧ Below w.heap.size w w' := by
  have hz := zeroSum14
  obtain ⟨zs, hzs⟩ : ∃ zs, K.bytesA 32 (fun _ => 0) = zs := ⟨_, rfl⟩
  have hzz : zs.size = 32 := by rw [← hzs]; exact K.bytesA_size 32 _
  rw [hzs] at hz
  have he := fun w hT => empty_any w hT
  have hon := K.bytesA_one 32 (K.hashOf [128])
  have hss : (K.bytesA 32 (K.hashOf [128])).size = 32 := K.bytesA_size 32 _
  obtain ⟨sm, hsm⟩ : ∃ sm, K.bytesA 32 (K.hashOf [128]) = sm := ⟨_, rfl⟩
  rw [hsm] at he hon hss ⊢
  have hin : (Tryd.prog.info? 40).map (·.size) = some sm.size := by rw [hss]; exact infoSum14
  have hB0 : Below w.heap.size w (w.alloc (.cells zs 40)) := (Below.refl _ _).alloc (Nat.le_refl _) _
  have hln' := hln _ hB0
  clear hsm hzs hln
  go_enter Tryd.func22, Tryd.ntmps22
  go_wp2_with fail
  refine hln'.mono ?_
  rintro e w1 ⟨rfl, rfl⟩
  go_wp2_with fail
  refine (he _ (hT.below hB0)).mono ?_
  rintro e w1 ⟨rfl, hB1⟩
  have h1 : K.Holds w1 w.heap.size 40 zs := K.Below.holds hB1 (K.Holds.new _ _ _)
  have hB1' := alloc_below hB1
  dsimp only
  go_wp2_with (first
    | (refine K.wpList_storeH rfl 40 _ _ rfl w.heap.size sm rfl rfl 40 zs h1 hin (by rw [hzz, hss]) hon ?_
       intro w3 h3 o3 z3)
    | fail)
  refine bodyPost_ret (K.results_cellH rfl _ _ w.heap.size 40 sm _ rfl h3 Tryd.underlying40 rfl hin) rfl ?_
  exact ⟨rfl, K.Only.fresh hB1' o3 (Nat.le_refl _)⟩
end Go.Proofs.YtjdhdeffiigpbaaDoor
