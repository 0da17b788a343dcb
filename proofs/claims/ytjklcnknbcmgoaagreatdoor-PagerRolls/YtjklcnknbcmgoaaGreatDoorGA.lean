/-
  Texts of this claim, put together.
-/
import Derived.Test.YtjklcnknbcmgoaaGreatDoorGB
import Derived.Test.YtjklcnknbcmgoaaGreatDoorDD
import Derived.Laws.ResultCell
import Derived.Deep.DeepMust
/-
  What comes of no pager.
-/
namespace Go.Proofs.YtjklcnknbcmgoaaGreatDoor
open Go Go.RowKit

theorem underPP : Tryz.prog.underlying 26 = some (.pointer (Tryz.prog.pointee 26)) := by kernel_rfl
set_option maxRecDepth 100000 in
theorem pg_eql (p : Option Addr) (w : World) : (binOp .eql 26 (.pointer p) (.pointer none)).run Tryz.prog w = .ok (.bool p.isNone) w := run_eql_pointer_nil w _ _ underPP
set_option maxRecDepth 100000 in
theorem pg_neq (p : Option Addr) (w : World) : (binOp .neq 26 (.pointer p) (.pointer none)).run Tryz.prog w = .ok (.bool (!p.isNone)) w := run_neq_pointer_nil w _ _ underPP
theorem groll_nil (w : World) : Calls Tryz.prog 21 #[.pointer none] w fun e w' => e = .returned (.tuple #[]) ∧ w' = w := by
  have hq := pg_eql
  go_enter Tryz.func21, Tryz.ntmps21
  go_wp2_with fail
  refine bodyPost_ret (results_none rfl _ _ _) rfl ?_
  exact ⟨rfl, rfl⟩
theorem galloc_nil (w : World) : Calls Tryz.prog 22 #[.pointer none] w fun e w' => e = .returned (.tuple #[.int .i64 0, .int .i64 1]) ∧ w' = w := by
  have hq := pg_eql
  go_enter Tryz.func22, Tryz.ntmps22
  go_wp2_with fail
  go_ret2
  exact ⟨rfl, rfl⟩
theorem gread_nil (n : Int) (w : World) : Calls Tryz.prog 23 #[.pointer none, .int .i64 n] w fun e w' => e = .returned (.tuple #[.int .u8 0, .string ⟨#[]⟩, .int .i64 1]) ∧ w' = w := by
  have hq := pg_eql
  go_enter Tryz.func23, Tryz.ntmps23
  go_wp2_with fail
  go_ret3
  exact ⟨rfl, rfl⟩
theorem gopen_nil (w : World) : Calls Tryz.prog 10 #[.pointer none] w fun e w' => e = .returned (.tuple #[.pointer none, .int .i64 1]) ∧ w' = w := by
  have hq := ptr_eql
  go_enter Tryz.func10, Tryz.ntmps10
  go_wp2_with fail
  go_ret2
  exact ⟨rfl, rfl⟩
theorem gwrite_nil (n k : Int) (s : ByteArray) (w : World) : Calls Tryz.prog 24 #[.pointer none, .int .i64 n, .int .u8 k, .string s] w fun e w' => e = .returned (.int .i64 1) ∧ w' = w := by
  have hq := pg_eql
  go_enter Tryz.func24, Tryz.ntmps24
  go_wp2_with fail
  go_ret
  exact ⟨rfl, rfl⟩
theorem gcommit_nil (r n : Int) (w : World) : Calls Tryz.prog 25 #[.pointer none, .int .i64 r, .int .i64 n] w fun e w' => e = .returned (.int .i64 1) ∧ Below w.heap.size w w' := by
  have hq := pg_eql
  go_enter Tryz.func25, Tryz.ntmps25
  go_wp2_with fail
  go_ret
  exact ⟨rfl, by first | exact Below.refl _ _ | exact below_new1 _ _ | exact below_new (below_new1 _ _) (below_new1 _ _)⟩
theorem gfree_nil (v : Value) (w : World) : Calls Tryz.prog 26 #[.pointer none, v] w fun e w' => e = .returned (.int .i64 0) ∧ w' = w := by
  have hq := pg_eql
  go_enter Tryz.func26, Tryz.ntmps26
  go_wp2_with fail
  go_ret
  exact ⟨rfl, rfl⟩
theorem gspare_nil (w : World) : Calls Tryz.prog 27 #[.pointer none] w fun e w' => e = .returned (.int .i64 0) ∧ w' = w := by
  have hq := pg_eql
  go_enter Tryz.func27, Tryz.ntmps27
  go_wp2_with fail
  go_ret
  exact ⟨rfl, rfl⟩
theorem greads_nil (w : World) : Calls Tryz.prog 28 #[.pointer none] w fun e w' => e = .returned (.int .i64 0) ∧ w' = w := by
  have hq := pg_eql
  go_enter Tryz.func28, Tryz.ntmps28
  go_wp2_with fail
  go_ret
  exact ⟨rfl, rfl⟩
theorem gbroken_nil (w : World) : Calls Tryz.prog 17 #[.pointer none] w fun e w' => e = .returned (.bool true) ∧ w' = w := by
  have hq := pg_eql
  go_enter Tryz.func17, Tryz.ntmps17
  go_wp2_with fail
  go_ret
  exact ⟨rfl, rfl⟩
theorem guse_nil (p : Option Addr) (n c : Nat) (w : World) : Calls Tryz.prog 11 #[.pointer none, .slice p n c] w fun e w' => e = .returned (.int .i64 0) ∧ Below w.heap.size w w' := by
  have hq := pg_neq
  go_enter Tryz.func11, Tryz.ntmps11
  go_wp2_with fail
  go_ret
  exact ⟨rfl, by first | exact Below.refl _ _ | exact below_new1 _ _ | exact below_new (below_new1 _ _) (below_new1 _ _) | exact below_new (below_new (below_new1 _ _) (below_new1 _ _)) (below_new1 _ _)⟩
theorem infoMetaG : (Tryz.prog.info? 43).map (·.size) = some 4 := by kernel_rfl
theorem gmeta_nil (w : World) : Calls Tryz.prog 20 #[.pointer none] w fun e w' => e = .returned (.agg #[.int .i64 0, .int .i64 0, .int .i64 0, .int .i64 0]) ∧ Below w.heap.size w w' := by
  have hq := pg_eql
  obtain ⟨W0, hW0⟩ : ∃ W0, w.alloc (.cells #[.int .i64 0, .int .i64 0, .int .i64 0, .int .i64 0] 43) = W0 := ⟨_, rfl⟩
  have hh := Holds.new w 43 #[.int .i64 0, .int .i64 0, .int .i64 0, .int .i64 0]
  have hB : Below w.heap.size w W0 := by rw [← hW0]; exact below_new1 _ _
  rw [hW0] at hh
  go_enter Tryz.func20, Tryz.ntmps20
  go_wp2_with ((with_reducible show wpList _ _ _ (Oper.mk _ (Op.store _ _ _) _ _ _ _ :: _) _ _); go_must (refine wpList_storeH rfl 43 _ _ rfl w.heap.size #[.int .i64 0, .int .i64 0, .int .i64 0, .int .i64 0] rfl rfl 43 #[.int .i64 0, .int .i64 0, .int .i64 0, .int .i64 0] hh infoMetaG rfl (by simp [Value.oneCell']) ?_; intro w10 hH10 hO10 hs10))
  refine bodyPost_ret (results_cellH (p := 2) rfl _ w10 w.heap.size 43 _ _ rfl hH10 Tryz.underlying43 rfl infoMetaG) rfl ?_
  exact ⟨rfl, Only.fresh hB hO10 (Nat.le_refl _)⟩
end Go.Proofs.YtjklcnknbcmgoaaGreatDoor
/-
  A pager as it lies in memory, and the calls that only ask it.
-/
namespace Go.Proofs.YtjklcnknbcmgoaaGreatDoor
open Go Go.RowKit

/-- A pager's plain parts. -/
structure Pgr where
  tx : Int
  root : Int
  entries : Int
  pages : Int
  stop : Int
  count : Int
  broken : Bool
  used : Bool
  reads : Int
/-- Its handles: its device, the map of runs, the row of their firsts, the new pages, the freed ones. -/
structure Pgh where
  dev : Nat
  runs : Option Nat
  firsts : Value
  fresh : Nat
  freed : Nat
def pgCells (h : Pgh) (P : Pgr) : Array Value := #[.pointer (some ⟨h.dev, 0, none⟩), .int .i64 P.tx, .int .i64 P.root, .int .i64 P.entries, .int .i64 P.pages, .int .i64 P.stop, .map h.runs, h.firsts, .int .i64 P.count, .map (some h.fresh), .map (some h.freed), .bool P.broken, .int .u32 (if P.used then 1 else 0), .int .i32 0, .int .u32 0, .int .i64 P.reads]
def PgCells (w : World) (b : Nat) (h : Pgh) (P : Pgr) : Prop := Holds w b 89 (pgCells h P)
section
variable {w : World} {b : Nat} {h : Pgh} {P : Pgr}
theorem gbroken_any (hp : PgCells w b h P) : Calls Tryz.prog 17 #[.pointer (some ⟨b, 0, none⟩)] w fun e w' => e = .returned (.bool P.broken) ∧ w' = w := by
  have hq := pg_eql
  have c : w.cell? ⟨b, 11, none⟩ = some (.bool P.broken) := hp.cell 11
  go_enter Tryz.func17, Tryz.ntmps17
  go_wp2_with fail
  go_ret
  exact ⟨rfl, rfl⟩
theorem gspare_any (hp : PgCells w b h P) : Calls Tryz.prog 27 #[.pointer (some ⟨b, 0, none⟩)] w fun e w' => e = .returned (.int .i64 P.count) ∧ w' = w := by
  have hq := pg_eql
  have c : w.cell? ⟨b, 8, none⟩ = some (.int .i64 P.count) := hp.cell 8
  go_enter Tryz.func27, Tryz.ntmps27
  go_wp2_with fail
  go_ret
  exact ⟨rfl, rfl⟩
theorem greads_any (hp : PgCells w b h P) : Calls Tryz.prog 28 #[.pointer (some ⟨b, 0, none⟩)] w fun e w' => e = .returned (.int .i64 P.reads) ∧ w' = w := by
  have hq := pg_eql
  have hl := reads_load ⟨b, 15, none⟩ P.reads w (hp.cell 15)
  go_enter Tryz.func28, Tryz.ntmps28
  go_wp2_with fail
  refine hl.mono ?_
  rintro e w' ⟨rfl, rfl⟩
  go_wp2_with fail
  go_ret
  exact ⟨rfl, rfl⟩
theorem gmeta_any (hp : PgCells w b h P) : Calls Tryz.prog 20 #[.pointer (some ⟨b, 0, none⟩)] w fun e w' => e = .returned (.agg #[.int .i64 P.tx, .int .i64 P.root, .int .i64 P.entries, .int .i64 P.pages]) ∧ Below w.heap.size w w' := by
  have hq := pg_eql
  obtain ⟨W0, hW0⟩ : ∃ W0, w.alloc (.cells #[.int .i64 0, .int .i64 0, .int .i64 0, .int .i64 0] 43) = W0 := ⟨_, rfl⟩
  have hh := Holds.new w 43 #[.int .i64 0, .int .i64 0, .int .i64 0, .int .i64 0]
  have hB : Below w.heap.size w W0 := by rw [← hW0]; exact below_new1 _ _
  rw [hW0] at hh
  have hp0 : Holds W0 b 89 (pgCells h P) := below_holds hB hp
  have c1 : W0.cell? ⟨b, 1, none⟩ = some (.int .i64 P.tx) := hp0.cell 1
  have c2 : W0.cell? ⟨b, 1 + 1, none⟩ = some (.int .i64 P.root) := hp0.cell 2
  have c3 : W0.cell? ⟨b, 1 + 2, none⟩ = some (.int .i64 P.entries) := hp0.cell 3
  have c4 : W0.cell? ⟨b, 1 + 3, none⟩ = some (.int .i64 P.pages) := hp0.cell 4
  go_enter Tryz.func20, Tryz.ntmps20
  go_wp2_with ((with_reducible show wpList _ _ _ (Oper.mk _ (Op.store _ _ _) _ _ _ _ :: _) _ _); go_must (refine wpList_storeH rfl 43 _ _ rfl w.heap.size #[.int .i64 P.tx, .int .i64 P.root, .int .i64 P.entries, .int .i64 P.pages] rfl rfl 43 #[.int .i64 0, .int .i64 0, .int .i64 0, .int .i64 0] hh infoMetaG rfl (by simp [Value.oneCell']) ?_; intro w10 hH10 hO10 hs10))
  refine bodyPost_ret (results_cellH (p := 2) rfl _ w10 w.heap.size 43 _ _ rfl hH10 Tryz.underlying43 rfl infoMetaG) rfl ?_
  exact ⟨rfl, Only.fresh hB hO10 (Nat.le_refl _)⟩
theorem gbehind_any (t r n p : Int) (w : World) : Calls Tryz.prog 33 #[.agg #[.int .i64 t, .int .i64 r, .int .i64 n, .int .i64 p]] w fun e w' => e = .returned (.int .i64 (max p 2)) ∧ Below w.heap.size w w' := by
  go_enter Tryz.func33, Tryz.ntmps33
  go_wp2_with fail
  go_ret
  exact ⟨rfl, below_new1 _ _⟩
/-- It is too late for Use then. -/
theorem gbegin_done (hp : PgCells w b h P) (hu : P.used = true) : Calls Tryz.prog 39 #[.pointer (some ⟨b, 0, none⟩)] w fun e w' => e = .returned (.tuple #[]) ∧ w' = w := by
  have c : w.cell? ⟨b, 12, none⟩ = some (.int .u32 1) := by have := hp.cell 12; rw [this]; simp [pgCells, hu]
  have hd := do_done b 12 (.func (.func 65) #[] #[]) w c
  go_enter Tryz.func39, Tryz.ntmps39
  go_wp2_with fail
  refine hd.mono ?_
  rintro e w' ⟨rfl, rfl⟩
  go_wp2_with fail
  go_end0
  exact ⟨rfl, rfl⟩
end
end Go.Proofs.YtjklcnknbcmgoaaGreatDoor
