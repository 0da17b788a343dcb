/-
  The program's Check, the document's Check.
-/
import Derived.Test.YtbidoangdnmjfaaDoorMCountW
import Derived.Maps.RangeWalk
import Derived.Laws.ResultCell
import Derived.WalkSmall
namespace Go.Proofs.YtbidoangdnmjfaaDoor
open Go Go.RowKit

theorem keep_cellM {w w' : World} {a : Addr} {v : Value} (hB : Below w.heap.size w w') (h : w.cell? a = some v) : w'.cell? a = some v := (hB.cell (World.block_lt_of_cell? w _ h)).trans h
section
variable {w : World} {ad : Addr}
theorem ldU16M {x : Int} (h : w.cell? ad = some (.int .u16 x)) : (loadVar 22 ad).run Tryd.prog w = .ok (.int .u16 x) w := by simp [go_sem, h]
theorem ldIntM {x : Int} (h : w.cell? ad = some (.int .i64 x)) : (loadVar 3 ad).run Tryd.prog w = .ok (.int .i64 x) w := by simp [go_sem, h]
theorem ldStrM {x : ByteArray} (h : w.cell? ad = some (.string x)) : (loadVar 9 ad).run Tryd.prog w = .ok (.string x) w := by simp [go_sem, h]
theorem ldRowM {p : Option Addr} {n c : Nat} (h : w.cell? ad = some (.slice p n c)) : (loadVar 23 ad).run Tryd.prog w = .ok (.slice p n c) w := by simp [go_sem, h]
end
section
variable {ops : Array Oper} {rest : List Oper} {op : Oper} {a : Act} {C : World → Prop} {Q : Act → Prop}
/-- A load, in a class of worlds. -/
theorem wpQ_ld (hw : Region.wanted op (yielded ops a.tmps) = true) (ty : TypeId) (x : Operand) (ho : op.op = .load ty x) {ad : Addr} (hx : a.eval x = .pointer (some ad)) {v : Value} (hh : ∀ w, C w → (loadVar ty ad).run Tryd.prog w = .ok v w)
    (h : wpQuiet Tryd.prog ops C Q rest (a.put op.dst v)) : wpQuiet Tryd.prog ops C Q (op :: rest) a :=
  wpQuiet_step fun _ hK => by
    rw [if_pos hw]
    refine ⟨v, fun w hw => ?_, hK _ h⟩
    unfold Oper.quietAt execOp
    simp only [ho, hx, Instr.loadAt, Instr.sureAddr, Sem.run_bind, Sem.run_pure, Result.andThen_ok, hh w hw]
    exact ⟨rfl, rfl⟩
end
/-- A branch's value. -/
def brV (s t h : Nat) (v : Value) : Value := .agg #[.int .u16 (s : Nat), .int .u16 (t : Nat), .int .u16 (h : Nat), v]
def brC (s t h : Nat) (v : Value) : Array Value := #[.int .u16 (s : Nat), .int .u16 (t : Nat), .int .u16 (h : Nat), v]
/-- May it be? -/
def chkM (s t h n : Nat) : Int := if 2 ≤ cntM s ∧ andN (t ||| h) s = 0 ∧ n = cntM h then 0 else 1
theorem box_br (w : World) (s t h : Nat) (v : Value) : ∃ W0 g, w.alloc (.cells #[.int .u16 (s : Nat), .int .u16 (t : Nat), .int .u16 (h : Nat), v] 25) = W0 ∧ w.heap.size = g ∧ Below w.heap.size w W0 ∧ Holds W0 g 25 (brC s t h v) ∧ W0.cell? ⟨g, 0, none⟩ = some (.int .u16 (s : Nat)) ∧ W0.cell? ⟨g, 1, none⟩ = some (.int .u16 (t : Nat)) ∧ W0.cell? ⟨g, 2, none⟩ = some (.int .u16 (h : Nat)) ∧ W0.cell? ⟨g, 3, none⟩ = some v := by
  have h := Holds.new w 25 (brC s t h v)
  exact ⟨_, _, rfl, rfl, below_new1 _ _, h, h.cell 0, h.cell 1, h.cell 2, h.cell 3⟩
theorem or_lo {t h : Nat} (ht : t < 65536) (hh : h < 65536) : bits BinOp.or IntKind.u16 (t : Int) (h : Int) = ((t ||| h : Nat) : Int) := or_u16 t h ht hh
set_option maxRecDepth 8000 in
set_option maxHeartbeats 1000000 in
theorem mcheck_any {w : World} {s t h n c : Nat} {p : Option Addr} (hs : s < 65536) (ht : t < 65536) (hh : h < 65536) (hn : n ≤ 9223372036854775807) (hT : DbAt w) : Calls Tryd.prog 16 #[brV s t h (.slice p n c)] w fun e w' => e = .returned (.int .i64 (chkM s t h n)) ∧ Below w.heap.size w w' := by
  unfold brV
  have hcs := fun W (hW : DbAt W) => count_any hs hW
  have hch := fun W (hW : DbAt W) => count_any hh hW
  obtain ⟨R, hR⟩ : ∃ R, chkM s t h n = R := ⟨_, rfl⟩
  have HR : Hid (chkM s t h n = R) := hR
  rw [hR]
  clear hR
  have hcl := cntM_le s
  have hch2 := cntM_le h
  unfold chkM at HR
  generalize cntM s = a at hcs HR hcl
  generalize cntM h = b at hch HR hch2
  obtain ⟨W0, g, hW0, hg, hB0, hb0, c0, c1, c2, c3⟩ := box_br w s t h (.slice p n c)
  have hgH : Hid (w.heap.size = g) := hg
  have hWH : Hid (Below w.heap.size w W0) := hB0
  have hT0 : Hid (DbAt W0) := hT.below hB0
  clear hB0 hb0 hT
  have hor := or_lo ht hh
  have han := andNot_u16 (t ||| h) s (or_lt16 _ _ ht hh) hs
  generalize andN (t ||| h) s = x at han HR
  generalize t ||| h = o at hor han
  have hni : (n : Int) ≤ 9223372036854775807 := by omega
  go_enter Tryd.func16, Tryd.ntmps16
  by_cases ha : a < 2
  · have HRe : Hid (R = 1) := HR.out.symm.trans (if_neg (by omega))
    go_wp2_with fail
    refine wp_region_class (fun W => Below W0.heap.size W0 W) mixedP (by kernel_rfl) (Below.refl _ _).drew ?_
    go_big_quiet_step (exact fun _ => rfl)
    refine wpQ_ld rfl _ _ rfl rfl (fun W hW => ldU16M (keep_cellM hW c0)) ?_
    go_frame
    refine wpQ_call rfl 20 #[.int .u16 (s : Nat)] (fun _ => by go_simp) (.int .i64 (a : Nat)) (fun W hW => (hcs W (hT0.out.below hW)).mono fun e w' h => ⟨h.1, below_new hW h.2⟩) ?_
    go_frame
    refine wpQ_val rfl (.bool true) (fun _ => by go_simp <;> omega) ?_
    go_frame
    go_big_quiet_step (exact fun _ => rfl)
    go_big_quiet_step (fail)
    go_big_quiet_step (fail)
    go_big_quiet_step (fail)
    go_big_quiet_step (fail)
    go_big_quiet_step (fail)
    go_big_quiet_step (fail)
    go_big_quiet_step (fail)
    go_big_quiet_step (fail)
    go_big_quiet_step (fail)
    go_big_quiet_step (exact fun _ => rfl)
    go_big_quiet_step (exact fun _ => rfl)
    go_big_quiet_step (fail)
    go_big_quiet_step (fail)
    go_big_quiet_step (fail)
    go_big_quiet_step (fail)
    go_big_quiet_step (fail)
    go_big_quiet_step (fail)
    go_big_quiet_step (fail)
    go_big_quiet_step (exact fun _ => rfl)
    refine wpQuiet_nil ?_
    intro W6 hB6
    show Exit.then _ _ Exit.normal _ _
    simp only [Exit.then]
    go_at_K
    have HB2 : Hid (Below w.heap.size w W6) := below_new hWH.out hB6
    clear hB6
    go_wp2_with fail
    go_ret
    exact ⟨by rw [HRe.out]; rfl, HB2.out⟩
  · by_cases hx : x = 0
    · subst hx
      by_cases hbn : b = n
      · have HRe : Hid (R = 0) := HR.out.symm.trans (if_pos ⟨by omega, rfl, hbn.symm⟩)
        subst hbn
        go_wp2_with fail
        refine wp_region_class (fun W => Below W0.heap.size W0 W) mixedP (by kernel_rfl) (Below.refl _ _).drew ?_
        go_big_quiet_step (exact fun _ => rfl)
        refine wpQ_ld rfl _ _ rfl rfl (fun W hW => ldU16M (keep_cellM hW c0)) ?_
        go_frame
        refine wpQ_call rfl 20 #[.int .u16 (s : Nat)] (fun _ => by go_simp) (.int .i64 (a : Nat)) (fun W hW => (hcs W (hT0.out.below hW)).mono fun e w' h => ⟨h.1, below_new hW h.2⟩) ?_
        go_frame
        refine wpQ_val rfl (.bool false) (fun _ => by go_simp <;> omega) ?_
        go_frame
        go_big_quiet_step (exact fun _ => rfl)
        go_big_quiet_step (exact fun _ => rfl)
        refine wpQ_ld rfl _ _ rfl rfl (fun W hW => ldU16M (keep_cellM hW c1)) ?_
        go_frame
        go_big_quiet_step (exact fun _ => rfl)
        refine wpQ_ld rfl _ _ rfl rfl (fun W hW => ldU16M (keep_cellM hW c2)) ?_
        go_frame
        refine wpQ_val rfl (.int .u16 (o : Nat)) (fun _ => by go_simp) ?_
        go_frame
        go_big_quiet_step (exact fun _ => rfl)
        refine wpQ_ld rfl _ _ rfl rfl (fun W hW => ldU16M (keep_cellM hW c0)) ?_
        go_frame
        refine wpQ_val rfl (.int .u16 (0)) (fun _ => by go_simp) ?_
        go_frame
        refine wpQ_val rfl (.bool false) (fun _ => by go_simp <;> omega) ?_
        go_frame
        go_big_quiet_step (exact fun _ => rfl)
        go_big_quiet_step (exact fun _ => rfl)
        go_big_quiet_step (exact fun _ => rfl)
        refine wpQ_ld rfl _ _ rfl rfl (fun W hW => ldRowM (keep_cellM hW c3)) ?_
        go_frame
        go_big_quiet_step (exact fun _ => rfl)
        go_big_quiet_step (exact fun _ => rfl)
        refine wpQ_ld rfl _ _ rfl rfl (fun W hW => ldU16M (keep_cellM hW c2)) ?_
        go_frame
        refine wpQ_call rfl 20 #[.int .u16 (h : Nat)] (fun _ => by go_simp) (.int .i64 (b : Nat)) (fun W hW => (hch W (hT0.out.below hW)).mono fun e w' h => ⟨h.1, below_new hW h.2⟩) ?_
        go_frame
        refine wpQ_val rfl (.bool false) (fun _ => by go_simp <;> omega) ?_
        go_frame
        go_big_quiet_step (exact fun _ => rfl)
        refine wpQuiet_nil ?_
        intro W6 hB6
        show Exit.then _ _ Exit.normal _ _
        simp only [Exit.then]
        go_at_K
        have HB2 : Hid (Below w.heap.size w W6) := below_new hWH.out hB6
        clear hB6
        go_wp2_with fail
        go_ret
        exact ⟨by rw [HRe.out]; rfl, HB2.out⟩
      · have HRe : Hid (R = 1) := HR.out.symm.trans (if_neg (by omega))
        go_wp2_with fail
        refine wp_region_class (fun W => Below W0.heap.size W0 W) mixedP (by kernel_rfl) (Below.refl _ _).drew ?_
        go_big_quiet_step (exact fun _ => rfl)
        refine wpQ_ld rfl _ _ rfl rfl (fun W hW => ldU16M (keep_cellM hW c0)) ?_
        go_frame
        refine wpQ_call rfl 20 #[.int .u16 (s : Nat)] (fun _ => by go_simp) (.int .i64 (a : Nat)) (fun W hW => (hcs W (hT0.out.below hW)).mono fun e w' h => ⟨h.1, below_new hW h.2⟩) ?_
        go_frame
        refine wpQ_val rfl (.bool false) (fun _ => by go_simp <;> omega) ?_
        go_frame
        go_big_quiet_step (exact fun _ => rfl)
        go_big_quiet_step (exact fun _ => rfl)
        refine wpQ_ld rfl _ _ rfl rfl (fun W hW => ldU16M (keep_cellM hW c1)) ?_
        go_frame
        go_big_quiet_step (exact fun _ => rfl)
        refine wpQ_ld rfl _ _ rfl rfl (fun W hW => ldU16M (keep_cellM hW c2)) ?_
        go_frame
        refine wpQ_val rfl (.int .u16 (o : Nat)) (fun _ => by go_simp) ?_
        go_frame
        go_big_quiet_step (exact fun _ => rfl)
        refine wpQ_ld rfl _ _ rfl rfl (fun W hW => ldU16M (keep_cellM hW c0)) ?_
        go_frame
        refine wpQ_val rfl (.int .u16 (0)) (fun _ => by go_simp) ?_
        go_frame
        refine wpQ_val rfl (.bool false) (fun _ => by go_simp <;> omega) ?_
        go_frame
        go_big_quiet_step (exact fun _ => rfl)
        go_big_quiet_step (exact fun _ => rfl)
        go_big_quiet_step (exact fun _ => rfl)
        refine wpQ_ld rfl _ _ rfl rfl (fun W hW => ldRowM (keep_cellM hW c3)) ?_
        go_frame
        go_big_quiet_step (exact fun _ => rfl)
        go_big_quiet_step (exact fun _ => rfl)
        refine wpQ_ld rfl _ _ rfl rfl (fun W hW => ldU16M (keep_cellM hW c2)) ?_
        go_frame
        refine wpQ_call rfl 20 #[.int .u16 (h : Nat)] (fun _ => by go_simp) (.int .i64 (b : Nat)) (fun W hW => (hch W (hT0.out.below hW)).mono fun e w' h => ⟨h.1, below_new hW h.2⟩) ?_
        go_frame
        refine wpQ_val rfl (.bool true) (fun _ => by go_simp <;> omega) ?_
        go_frame
        go_big_quiet_step (exact fun _ => rfl)
        refine wpQuiet_nil ?_
        intro W6 hB6
        show Exit.then _ _ Exit.normal _ _
        simp only [Exit.then]
        go_at_K
        have HB2 : Hid (Below w.heap.size w W6) := below_new hWH.out hB6
        clear hB6
        go_wp2_with fail
        go_ret
        exact ⟨by rw [HRe.out]; rfl, HB2.out⟩
    · have HRe : Hid (R = 1) := HR.out.symm.trans (if_neg (by omega))
      go_wp2_with fail
      refine wp_region_class (fun W => Below W0.heap.size W0 W) mixedP (by kernel_rfl) (Below.refl _ _).drew ?_
      go_big_quiet_step (exact fun _ => rfl)
      refine wpQ_ld rfl _ _ rfl rfl (fun W hW => ldU16M (keep_cellM hW c0)) ?_
      go_frame
      refine wpQ_call rfl 20 #[.int .u16 (s : Nat)] (fun _ => by go_simp) (.int .i64 (a : Nat)) (fun W hW => (hcs W (hT0.out.below hW)).mono fun e w' h => ⟨h.1, below_new hW h.2⟩) ?_
      go_frame
      refine wpQ_val rfl (.bool false) (fun _ => by go_simp <;> omega) ?_
      go_frame
      go_big_quiet_step (exact fun _ => rfl)
      go_big_quiet_step (exact fun _ => rfl)
      refine wpQ_ld rfl _ _ rfl rfl (fun W hW => ldU16M (keep_cellM hW c1)) ?_
      go_frame
      go_big_quiet_step (exact fun _ => rfl)
      refine wpQ_ld rfl _ _ rfl rfl (fun W hW => ldU16M (keep_cellM hW c2)) ?_
      go_frame
      refine wpQ_val rfl (.int .u16 (o : Nat)) (fun _ => by go_simp) ?_
      go_frame
      go_big_quiet_step (exact fun _ => rfl)
      refine wpQ_ld rfl _ _ rfl rfl (fun W hW => ldU16M (keep_cellM hW c0)) ?_
      go_frame
      refine wpQ_val rfl (.int .u16 (x : Nat)) (fun _ => by go_simp) ?_
      go_frame
      refine wpQ_val rfl (.bool true) (fun _ => by go_simp <;> omega) ?_
      go_frame
      go_big_quiet_step (exact fun _ => rfl)
      go_big_quiet_step (exact fun _ => rfl)
      go_big_quiet_step (fail)
      go_big_quiet_step (fail)
      go_big_quiet_step (fail)
      go_big_quiet_step (fail)
      go_big_quiet_step (fail)
      go_big_quiet_step (fail)
      go_big_quiet_step (fail)
      go_big_quiet_step (exact fun _ => rfl)
      refine wpQuiet_nil ?_
      intro W6 hB6
      show Exit.then _ _ Exit.normal _ _
      simp only [Exit.then]
      go_at_K
      have HB2 : Hid (Below w.heap.size w W6) := below_new hWH.out hB6
      clear hB6
      go_wp2_with fail
      go_ret
      exact ⟨by rw [HRe.out]; rfl, HB2.out⟩
end Go.Proofs.YtbidoangdnmjfaaDoor
