/-
  What Node and Root tell of pairs that may not be, and Root of none; what a builder tells of what it refuses, and the first pair that it takes.
-/
import Derived.Test.YtjdhdeffiigpbaaDoorTSrtdW
import Derived.Test.YtjdhdeffiigpbaaDoorEqLaws
import Derived.Laws.ResultCell
namespace Go.Proofs.YtjdhdeffiigpbaaDoor
open Go Go.RowKit Nb

section
variable {P : Program} {ops : Array Oper} {C : World → Prop}
theorem cq_load {rest : List Oper} {op : Oper} {a : Act} {Q : Act → Prop} (ty : TypeId) (x : Operand) (ho : op.op = .load ty x)
    (b : Nat) (hx : a.eval x = .pointer (some ⟨b, 0, none⟩)) (hw : Region.wanted op (yielded ops a.tmps) = true) (t : TypeId) (cs : Array Value) (d : TypeDesc) (hh : ∀ w, C w → K.Holds w b t cs)
    (hu : P.underlying ty = some d) (hd : d.isRow = true) (hi : (P.info? ty).map (·.size) = some cs.size)
    (h : wpQuiet P ops C Q rest (a.put op.dst (.agg cs))) : wpQuiet P ops C Q (op :: rest) a :=
  cq_val hw (.agg cs) (fun w hC => by
    unfold execOp
    simp only [ho, hx, Instr.loadAt, Instr.sureAddr, Sem.run_bind, Sem.run_pure, Result.andThen_ok, run_loadVar_row w b t ty cs (0, 0) d (hh w hC) hu (by cases d <;> simp_all) hi]) h
theorem cq_eqlS {rest : List Oper} {op : Oper} {a : Act} {Q : Act → Prop} (t t' : TypeId) (x y : Operand) (ho : op.op = .binOp .eql t x y t')
    (xs ys : Array Value) (hx : a.eval x = .agg xs) (hy : a.eval y = .agg ys) (hw : Region.wanted op (yielded ops a.tmps) = true) (r : Bool) (hg : P.eqGuardType P.depth t = false) (he : ∀ w, C w → (Op.equalIn 10000 t (.agg xs) (.agg ys)).run P w = .ok r w)
    (h : wpQuiet P ops C Q rest (a.put op.dst (.bool r))) : wpQuiet P ops C Q (op :: rest) a :=
  cq_val hw (.bool r) (fun w hC => by
    unfold execOp
    have h1 := run_eqGuard_agg (P := P) w .eql t x y xs ys hg
    have h2 := run_eql_struct (P := P) w t xs ys
    rw [he w hC] at h2
    simp only [ho, hx, hy, Sem.run_bind, Sem.run_pure, h1, h2, Result.andThen_ok]) h
end
theorem results_sumT {fn : Func} {p u : Tmp} (h : fn.results = #[.cell p 40, .tmp u]) (tmps : Array Value) (w : World) (b : Nat) (t : TypeId) (cs : Array Value) (v : Value)
    (hp : tmps.getD p undef = .pointer (some ⟨b, 0, none⟩)) (hv : tmps.getD u undef = v) (hh : K.Holds w b t cs) (hs : cs.size = 32) : (results fn tmps).run Tryd.prog w = .ok (.tuple #[.agg cs, v]) w := by
  rw [results_cell_tmp h, hp, hv]
  have hr := run_loadVar_row (P := Tryd.prog) w b t 40 cs (0, 0) _ hh Tryd.underlying40 rfl (by rw [hs]; exact infoSum14)
  simp [asAddr, hr]
set_option maxRecDepth 4000 in
theorem node_bad (d : Int) (v : Value) (L : List Pr) (w : World) (h : PairsAt w v L) (hl : L.length ≤ 1000000) (hk : ∀ p ∈ L, p.1.size ≤ 1000000) (hn : ¬ mayL L) :
    Calls Tryd.prog 18 #[.int .i64 d, v] w fun e w' => e = .returned (.tuple #[.string ⟨#[]⟩, .int .i64 1]) ∧ Below w.heap.size w w' := by
  have hs := sorted_any v L w h hl hk
  obtain ⟨pn, cn, rfl⟩ := h.shape
  clear h hl hk
  have HN : Hid (¬ mayL L) := hn
  clear hn
  go_enter Tryd.func18, Tryd.ntmps18
  go_wp2_with fail
  refine hs.mono ?_
  rintro e w1 ⟨b, v', rfl, h1, _, hB⟩
  cases b with
  | true => exact absurd (h1 rfl).1 HN.out
  | false =>
    clear h1
    go_wp2_with fail
    go_ret2
    exact ⟨rfl, hB⟩
set_option maxRecDepth 4000 in
theorem root_none (p : Option Addr) (c : Nat) (w : World) (hT : K.Tabs w) :
    Calls Tryd.prog 24 #[.slice p 0 c] w fun e w' => e = .returned (.tuple #[.agg (K.bytesA 32 (K.hashOf [128])), .int .i64 0]) ∧ Below w.heap.size w w' := by
  have hz := zeroSum14
  obtain ⟨zs, hzs⟩ : ∃ zs, K.bytesA 32 (fun _ => 0) = zs := ⟨_, rfl⟩
  have hzz : zs.size = 32 := by rw [← hzs]; exact K.bytesA_size 32 _
  rw [hzs] at hz
  have he := fun w hT => empty_any w hT
  have hon := K.bytesA_one 32 (K.hashOf [128])
  have hss : (K.bytesA 32 (K.hashOf [128])).size = 32 := K.bytesA_size 32 _
  obtain ⟨sm, hsm⟩ : ∃ sm, K.bytesA 32 (K.hashOf [128]) = sm := ⟨_, rfl⟩
  rw [hsm] at he hon hss ⊢
  have hin : (Tryd.prog.info? 40).map (·.size) = some sm.size := by rw [hss]; exact infoSum14
  clear hsm hzs
  go_enter Tryd.func24, Tryd.ntmps24
  go_wp2_with fail
  have hB0 : Below w.heap.size w (w.alloc (.cells zs 40)) := (Below.refl _ _).alloc (Nat.le_refl _) _
  refine (he _ (hT.below hB0)).mono ?_
  rintro e w1 ⟨rfl, hB1⟩
  have h1 : K.Holds w1 w.heap.size 40 zs := K.Below.holds hB1 (K.Holds.new _ _ _)
  have hB1' := alloc_below hB1
  dsimp only
  go_wp2_with (first
    | (refine K.wpList_storeH rfl 40 _ _ rfl w.heap.size sm rfl rfl 40 zs h1 hin (by rw [hzz, hss]) hon ?_
       intro w3 h3 o3 z3)
    | fail)
  refine bodyPost_ret (results_sumT rfl _ _ w.heap.size 40 sm _ rfl rfl h3 hss) rfl ?_
  exact ⟨rfl, K.Only.fresh hB1' o3 (Nat.le_refl _)⟩
set_option maxRecDepth 4000 in
theorem root_bad (v : Value) (L : List Pr) (w : World) (h : PairsAt w v L) (hl : L.length ≤ 1000000) (hk : ∀ p ∈ L, p.1.size ≤ 1000000) (hn : ¬ mayL L) (h0 : L ≠ []) :
    Calls Tryd.prog 24 #[v] w fun e w' => e = .returned (.tuple #[.agg (K.bytesA 32 fun _ => 0), .int .i64 1]) ∧ Below w.heap.size w w' := by
  have hlen : L.length ≠ 0 := fun e => h0 (List.eq_nil_of_length_eq_zero e)
  obtain ⟨n, hn'⟩ : ∃ n, L.length = n := ⟨_, rfl⟩
  have hz := zeroSum14
  have hon := K.bytesA_one 32 (fun _ => 0)
  obtain ⟨zs, hzs⟩ : ∃ zs, K.bytesA 32 (fun _ => 0) = zs := ⟨_, rfl⟩
  have hzz : zs.size = 32 := by rw [← hzs]; exact K.bytesA_size 32 _
  have hbuild : ∀ w, (Instr.build 40 #[]).run Tryd.prog w = .ok (.agg zs) w := fun w => by rw [← hzs]; exact run_build w 40 _ _ (by kernel_rfl)
  rw [hzs] at hz hon ⊢
  have hin : (Tryd.prog.info? 40).map (·.size) = some zs.size := by rw [hzz]; exact infoSum14
  have hB0 : Below w.heap.size w (w.alloc (.cells zs 40)) := (Below.refl _ _).alloc (Nat.le_refl _) _
  have hnode := node_bad 0 v L (w.alloc (.cells zs 40)) (h.below hB0) hl hk hn
  obtain ⟨pn, cn, rfl⟩ := h.shape
  rw [hn'] at hnode hlen ⊢
  have hni : ¬ (n : Int) = 0 := by omega
  clear hn' hl hk h hn h0 hzs hlen
  go_enter Tryd.func24, Tryd.ntmps24
  go_wp2_with fail
  refine hnode.mono ?_
  rintro e w1 ⟨rfl, hB1⟩
  have h1 : K.Holds w1 w.heap.size 40 zs := K.Below.holds hB1 (K.Holds.new _ _ _)
  have hB1' := alloc_below hB1
  go_wp2_with (first
    | (refine K.wpList_storeH rfl 40 _ _ rfl w.heap.size zs rfl rfl 40 zs h1 hin rfl hon ?_
       intro w3 h3 o3 z3)
    | fail)
  refine bodyPost_ret (results_sumT rfl _ _ w.heap.size 40 zs _ rfl rfl h3 hzz) rfl ?_
  exact ⟨rfl, K.Only.fresh hB1' o3 (Nat.le_refl _)⟩
end Go.Proofs.YtjdhdeffiigpbaaDoor
