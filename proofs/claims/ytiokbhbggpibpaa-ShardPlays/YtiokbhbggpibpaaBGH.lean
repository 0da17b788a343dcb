/-
  Texts of this claim, put together.
-/
import Derived.Test.YtiokbhbggpibpaaBGF
/-
  What Cut does.
-/
namespace Go.Proofs.Ytiokbhbggpibpaa
open Go Go.RowKit Go.Maps

/-- What is left while entries are struck. -/
def cutLf (M : Nat → Bool) (edge : Nat) (lf : Nat → Bool) (n : Nat) : Bool := M n && (decide (n / 256 < edge) || lf (n / 256))
theorem cutLf_start (M : Nat → Bool) (edge : Nat) : cutLf M edge (liveB M) = M := by
  funext n
  unfold cutLf
  cases h : M n
  · rfl
  · have : liveB M (n / 256) = true := liveB_iff.2 ⟨n % 256, by omega, by rw [show 256 * (n / 256) + n % 256 = n by omega]; exact h⟩
    rw [this]; simp
theorem cutLf_keep {M : Nat → Bool} {edge u : Nat} {lf : Nat → Bool} (h : u < edge) : cutLf M edge (fun v => lf v && !decide (v = u)) = cutLf M edge lf := by
  funext n
  unfold cutLf
  by_cases e : n / 256 = u
  · rw [e, decide_eq_true h]; simp
  · simp [e]
theorem cutLf_drop {M : Nat → Bool} {edge u : Nat} {lf : Nat → Bool} (h : ¬ u < edge) : setU (cutLf M edge lf) u (fun _ => false) = cutLf M edge (fun v => lf v && !decide (v = u)) := by
  funext n
  unfold setU cutLf
  split
  · rename_i e
    rw [e, decide_eq_false h]; simp
  · rename_i e
    simp [e]
theorem cutLf_end {M : Nat → Bool} {edge : Nat} {lf : Nat → Bool} (h : ∀ u, lf u = false) : cutLf M edge lf = fun n => M n && decide (n / 256 < edge) := by
  funext n
  unfold cutLf
  rw [h]; simp

theorem wpList_delV {ops : Array Oper} {rest : List Oper} {o : Oper} {a : Act} {w : World} {Q : Exit → Act → World → Prop} (hg : o.guard = none) (x y : Operand) (hop : o.op = Op.call { callee := Callee.builtin Builtin.delete, args := #[x, y], argTypes := #[60, 3] })
    {r m u : Nat} {M lf : Nat → Bool} {cnt : Nat} (hx : a.eval x = .map (some m)) (hy : a.eval y = .int .i64 (u : Nat)) (hu : u < NU) (h : RangV w r M lf cnt (some m))
    (hK : ∀ w' cnt', RangV w' r (setU M u fun _ => false) (fun v => lf v && !decide (v = u)) cnt' (some m) → cnt' ≤ cnt → Only m w w' → wpList Try.prog ops Q rest (a.put o.dst (.tuple #[])) w') :
    wpList Try.prog ops Q (o :: rest) a w := by
  refine wpList_plain hg fun K' hK' => ?_
  obtain ⟨D, left, hr, hR, hl⟩ := h
  have hw : (Lit.int .i64 (u : Int)).wf = true := by rw [NU_eq] at hu; exact wfI (by omega) (by omega)
  obtain ⟨w', cnt', hrun, h1, h2, h3⟩ := hr.drop keyed3 Try.underlying60 (keyOf_u hw) o.type
  have hgr := h3.grown
  unfold Oper.wp
  simp [execOp, hop, resolve, invoke, builtin, hx, hy, hrun, Result.andThen]
  refine hK' _ _ (hK w' cnt' ⟨_, _, h1, hR.del (u := u), fun v => ?_⟩ h2 ⟨hgr.os, hgr.tape, hgr.output, hgr.size, fun k hk hne => hgr.block k hk (fun e => hne (by injection e))⟩)
  show (lf v && !decide (v = u)) = (left (keyU v) && !(keyU v).sameKey (keyU u))
  rw [hl, same_keyU]

theorem cut1_any {w : World} {be edge u : Nat} {cs : Array Value} (he : Holds w be 3 #[.int .i64 (edge : Nat)]) :
    Calls Try.prog 52 #[.int .i64 (u : Nat), .agg cs, .pointer (some ⟨be, 0, none⟩)] w fun e w' => e = .returned (.bool (decide (edge ≤ u))) ∧ Below w.heap.size w w' := by
  obtain ⟨W0, hW⟩ : ∃ W0, World.alloc w (.cells cs 76) = W0 := ⟨_, rfl⟩
  have hB : Below w.heap.size w W0 := by rw [← hW]; exact below_new1 _ _
  have hc : W0.cell? ⟨be, 0, none⟩ = some (.int .i64 (edge : Nat)) := (below_holds hB he).cell 0
  go_enter Try.func52, Try.ntmps52
  go_wp2_with fail
  go_ret
  exact ⟨by simp, hB⟩

set_option maxRecDepth 8000 in
theorem del_any {w : World} {m be edge : Nat} {M : Nat → Bool} (h : MapAt w m M) (he : Holds w be 3 #[.int .i64 (edge : Nat)]) :
    Calls Try.prog 51 #[.map (some m), .func (.func 52) #[] #[.pointer (some ⟨be, 0, none⟩)]] w fun e w' => e = .returned (.tuple #[]) ∧ MapAt w' m (fun n => M n && decide (n / 256 < edge)) ∧ OnlyS m none w w' := by
  have hne : m ≠ be := by
    rintro rfl
    obtain ⟨es, clock, hq⟩ := h.obj
    unfold Holds at he
    rw [he] at hq; cases hq
  have hml := h.lt
  go_enter Try.func51, Try.ntmps51
  go_wp2_with (first
    | (at_range; refine wpList_rangeV rfl _ rfl rfl (mo := some m) h ?_; intro w0 cnt0 hrg0 hB0 hs0)
    | go_in)
  go_frame
  go_loopw [4, 5, 8] (fun _ _ _ wr => ∃ (lf : Nat → Bool) (ct : Nat), RangV wr w.heap.size (cutLf M edge lf) lf ct (some m) ∧ OnlyS m none w wr) (fun _ _ _ wr => leftV wr w.heap.size (some m))
  case atStart =>
    exact ⟨liveB M, _, by rw [cutLf_start M edge]; exact hrg0, OnlyS.below hB0⟩
  case round =>
    obtain ⟨lf, ct, hrg, hO⟩ := hrel
    go_wp2_with (first
      | (at_next; refine wpList_nextV rfl _ rfl rfl hrg ?_ ?_)
      | go_in)
    · intro hl0
      have hm := hrg.map
      rw [cutLf_end hl0] at hm
      go_wp2_with fail
      go_end0
      exact ⟨rfl, hm, hO⟩
    · intro u w2 ct2 hu hlv hlf hrg2 hlt hO2 hsz hen
      clear hsz
      have hC := IsC.mk (atU (cutLf M edge lf) u)
      generalize contA (atU (cutLf M edge lf) u) = cs at hen hC ⊢
      have hZ := IsC.mk fun _ => false
      obtain ⟨W3, hW⟩ : ∃ W3, World.alloc w2 (.cells (contA fun _ => false) 76) = W3 := ⟨_, rfl⟩
      have h1 : Holds W3 w2.heap.size 76 (contA fun _ => false) := by rw [← hW]; exact Holds.new _ _ _
      have hB3 : Below w2.heap.size w2 W3 := by rw [← hW]; exact below_new1 _ _
      have hOn : OnlyS m none w w2 := ⟨hO2.os.trans hO.os, hO2.tape.trans hO.tape, hO2.output.trans hO.output, Nat.le_trans hO.size hO2.size, fun k hk h1 h2 => (hO2.block k (Nat.lt_of_lt_of_le hk hO.size) (by omega)).trans (hO.block k hk h1 h2)⟩
      have hbe : Holds w2 be 3 #[.int .i64 (edge : Nat)] := by
        have := he.lt
        unfold Holds at he ⊢
        rw [hOn.block be this (fun e => hne e.symm) (by simp)]
        exact he
      rw [zeroC] at hW
      have hct := fun (W : World) (hW : Holds W be 3 #[.int .i64 (edge : Nat)]) => cut1_any (u := u) (cs := cs) hW
      by_cases hue : u < edge
      · rw [← cutLf_keep (M := M) (lf := lf) hue] at hrg2
        have hde : decide (edge ≤ u) = false := decide_eq_false (by omega)
        rw [hde] at hct
        go_wp2_with (first
          | (refine wpList_stK rfl _ _ rfl rfl rfl h1 hC hZ ?_; intro W4 h2 hO4 hs4; clear hs4; have hB4 : Below w2.heap.size w2 W4 := Only.fresh hB3 hO4 (Nat.le_refl _))
          | (refine wpList_ldK rfl _ rfl rfl h2 hC ?_)
          | (go_at_call 52; refine (hct W4 (below_holds hB4 hbe)).mono ?_; rintro e w5 ⟨rfl, hB5⟩))
        have hB25 := below_new hB4 hB5
        have hrg5 := hrg2.below hB25
        go_roundw
        case rel => exact ⟨_, ct2, hrg5, hOn.trans (Newer.refl _ _) (OnlyS.below hB25)⟩
        case measure => rw [hrg5.left, hrg.left]; exact hlt
      · have hde : decide (edge ≤ u) = true := decide_eq_true (by omega)
        rw [hde] at hct
        go_wp2_with (first
          | (refine wpList_stK rfl _ _ rfl rfl rfl h1 hC hZ ?_; intro W4 h2 hO4 hs4; clear hs4; have hB4 : Below w2.heap.size w2 W4 := Only.fresh hB3 hO4 (Nat.le_refl _))
          | (refine wpList_ldK rfl _ rfl rfl h2 hC ?_)
          | (go_at_call 52; refine (hct W4 (below_holds hB4 hbe)).mono ?_; rintro e w5 ⟨rfl, hB5⟩; have hB25 := below_new hB4 hB5; have hrg5 := hrg2.below hB25)
          | (at_delete; refine wpList_delV rfl _ _ rfl rfl rfl hu hrg5 ?_; intro w6 ct6 hrg6 hle6 hO6; go_frame))
        rw [cutLf_drop hue] at hrg6
        have e2 : (fun v => (lf v && !decide (v = u)) && !decide (v = u)) = fun v => lf v && !decide (v = u) := by
          funext v
          cases lf v <;> cases decide (v = u) <;> rfl
        rw [e2] at hrg6
        go_roundw
        case rel =>
          refine ⟨_, ct6, hrg6, (hOn.trans (Newer.refl _ _) (OnlyS.below hB25)).trans (Newer.refl _ _) (OnlyS.only hO6)⟩
        case measure => rw [hrg6.left, hrg.left]; omega
end Go.Proofs.Ytiokbhbggpibpaa
/-
  What Cut does: its walk.
-/
namespace Go.Proofs.Ytiokbhbggpibpaa
open Go Go.RowKit Go.Maps

/-- The world but for one map. -/
structure OnlyM (mo : Option Nat) (w w' : World) : Prop where
  os : w'.os = w.os
  tape : w'.tape = w.tape
  output : w'.output = w.output
  size : w.heap.size ≤ w'.heap.size
  block : ∀ k, k < w.heap.size → some k ≠ mo → w'.heap[k]? = w.heap[k]?
theorem OnlyM.below {mo : Option Nat} {w w' : World} (h : Below w.heap.size w w') : OnlyM mo w w' := ⟨h.os, h.tape, h.output, h.size, fun k hk _ => h.block k hk⟩
theorem OnlyM.only {m : Nat} {w w' : World} (h : Only m w w') : OnlyM (some m) w w' := ⟨h.os, h.tape, h.output, h.size, fun k hk hm => h.block k hk (fun e => hm (by rw [e]))⟩
theorem OnlyM.onlyS {m : Nat} {w w' : World} (h : OnlyS m none w w') : OnlyM (some m) w w' := ⟨h.os, h.tape, h.output, h.size, fun k hk hm => h.block k hk (fun e => hm (by rw [e])) (by simp)⟩
theorem OnlyM.trans {mo : Option Nat} {w w1 w2 : World} (h : OnlyM mo w w1) (k : OnlyM mo w1 w2) : OnlyM mo w w2 :=
  ⟨k.os.trans h.os, k.tape.trans h.tape, k.output.trans h.output, Nat.le_trans h.size k.size, fun i hi hm => (k.block i (Nat.lt_of_lt_of_le hi h.size) hm).trans (h.block i hi hm)⟩
theorem OnlyM.toS {mo : Option Nat} {w w' : World} (b : Nat) (h : OnlyM mo w w') : OnlyS b mo w w' := ⟨h.os, h.tape, h.output, h.size, fun k hk _ hm => h.block k hk hm⟩
theorem OnlyM.holds {mo : Option Nat} {w w' : World} (h : OnlyM mo w w') {b : Nat} {t : TypeId} {cs : Array Value} (hh : Holds w b t cs) (hm : some b ≠ mo) : Holds w' b t cs := by
  have := hh.lt
  unfold Holds at *
  rw [h.block b this hm]; exact hh
theorem map_ne {w : World} {m b : Nat} {M : Nat → Bool} {t : TypeId} {cs : Array Value} (h : MapAt w m M) (hh : Holds w b t cs) : some b ≠ some m := by
  intro e
  injection e with e
  subst e
  obtain ⟨es, clock, hq⟩ := h.obj
  unfold Holds at hh
  rw [hh] at hq; cases hq
theorem View.onlyM {w w' : World} {s : Value} {m : Nat} {M M' : Nat → Bool} (h : View w s (some m) M) (k : OnlyM (some m) w w') (h' : MapAt w' m M') : View w' s (some m) M' := by
  refine ⟨?_, h'⟩
  rcases h.ptr with ⟨_, h1⟩ | ⟨b, h1, h2⟩
  · cases h1
  · exact .inr ⟨b, h1, k.holds h2 (map_ne h.map h2)⟩

/-- What is below a number. -/
def cutM (M : Nat → Bool) (f : Nat) (n : Nat) : Bool := M n && decide (n < f)
theorem cut_rest {M : Nat → Bool} {f : Nat} (h : ¬ ∃ l, l < 256 ∧ (atU M (f / 256) l && decide (l < f % 256)) = true) : (fun n => M n && decide (n / 256 < f / 256)) = cutM M f := by
  funext n
  unfold cutM
  by_cases e : n / 256 = f / 256
  · rw [decide_eq_false (by omega), Bool.and_false]
    cases hm : M n
    · rfl
    · by_cases hlt : n < f
      · exact absurd ⟨n % 256, by omega, by unfold atU; rw [show 256 * (f / 256) + n % 256 = n by omega, hm, decide_eq_true (by omega)]; rfl⟩ h
      · rw [decide_eq_false hlt]; rfl
  · congr 1
    exact decide_eq_decide.2 (by omega)
theorem cut_set {M : Nat → Bool} {f : Nat} : setU (fun n => M n && decide (n / 256 < f / 256)) (f / 256) (fun l => atU M (f / 256) l && decide (l < f % 256)) = cutM M f := by
  funext n
  unfold cutM setU
  split
  · rename_i e
    unfold atU
    dsimp only
    rw [← e, show 256 * (n / 256) + n % 256 = n by omega]
    congr 1
    exact decide_eq_decide.2 (by omega)
  · rename_i e
    dsimp only
    congr 1
    exact decide_eq_decide.2 (by omega)
theorem wpList_updK {ops : Array Oper} {rest : List Oper} {op : Oper} {a : Act} {w : World} {Q : Exit → Act → World → Prop} (hgd : op.guard = none) (x y z : Operand) (ho : op.op = .mapUpdate 60 x y z)
    {m u : Nat} {q M : Nat → Bool} {cs : Array Value} (hx : a.eval x = .map (some m)) (hy : a.eval y = .int .i64 (u : Nat)) (hz : a.eval z = .agg cs) (hcs : cs = contA q) (h : MapAt w m M) (hu : u < NU) (hq : ∃ l, l < 256 ∧ q l = true)
    (hK : ∀ w', MapAt w' m (setU M u q) → Only m w w' → w'.heap.size = w.heap.size → wpList Try.prog ops Q rest (a.put op.dst undef) w') : wpList Try.prog ops Q (op :: rest) a w := by
  subst hcs
  exact wpList_upd hgd x y z ho hx hy hz h hu hq hK
theorem cnt_pos {p : Nat → Bool} : 0 < cnt p ↔ ∃ l, l < 256 ∧ p l = true := by
  unfold cnt
  rw [List.countP_pos_iff]
  simp

set_option maxRecDepth 8000 in
theorem cut_some {w : World} {s : Value} {m : Nat} {M : Nat → Bool} (h : View w s (some m) M) (fr : Int) (hfr : fr ≤ 9223372036854775807) :
    Calls Try.prog 30 #[s, .int .i64 fr] w fun e w' => e = .returned (.int .i64 ((card M : Nat) - (card (cutM M fr.toNat) : Nat) : Int)) ∧ View w' s (some m) (cutM M fr.toNat) ∧ OnlyM (some m) w w' := by
  obtain ⟨f, hf⟩ : ∃ f, fr.toNat = f := ⟨_, rfl⟩
  rw [hf]
  have hmax : max fr 0 = (f : Int) := by omega
  have hf1 : (f : Int) ≤ 9223372036854775807 := by omega
  have hf0 : (0 : Int) ≤ f := by omega
  clear hf
  have hh := held_any h
  have hln := len_any h
  have hc1 := card_le M
  have hc2 := card_le (cutM M f)
  have hln2 := fun (W : World) (hW : View W s (some m) (cutM M f)) => len_any hW
  generalize card M = cd at hln hc1 ⊢
  generalize card (cutM M f) = cd2 at hln2 hc2 ⊢
  have hZ := IsC.mk fun _ => false
  have hCR := IsC.mk (fun l => atU M (f / 256) l && decide (l < f % 256))
  have hct := count5 (fun l => atU M (f / 256) l && decide (l < f % 256))
  obtain ⟨cr, hcr⟩ : ∃ cr, contA (fun l => atU M (f / 256) l && decide (l < f % 256)) = cr := ⟨_, rfl⟩
  have HCR : Hid (contA (fun l => atU M (f / 256) l && decide (l < f % 256)) = cr) := hcr
  rw [hcr] at hCR hct
  clear hcr
  have hO : ∀ {w1 w2 W3 w4 W6 w7 w8 : World}, Below w1.heap.size w1 w2 → Below w2.heap.size w2 W3 → Below W3.heap.size W3 w4 → Below w4.heap.size w4 W6 → OnlyM (some m) W6 w7 → Below w7.heap.size w7 w8 → OnlyM (some m) w1 w8 :=
    fun a b c d e f => ((OnlyM.below (below_new (below_new (below_new a b) c) d)).trans e).trans (OnlyM.below f)
  by_cases hex : ∃ l, l < 256 ∧ (atU M (f / 256) l && decide (l < f % 256)) = true
  · have hpos := cnt_pos.2 hex
    have hfN : f / 256 < NU := by
      obtain ⟨l, hl, hq⟩ := hex
      simp at hq
      exact liveU_lt h.map.bound ⟨l, hl, hq.1⟩
    generalize cnt (fun l => atU M (f / 256) l && decide (l < f % 256)) = nr at hct hpos
    have hposI : (0 : Int) < nr := by omega
    go_enter Try.func30, Try.ntmps30
    go_wp2_with (first
        | (go_at_call 44; refine hh.mono ?_; rintro e w1 ⟨rfl, rfl⟩)
        | (go_at_call 24; refine hln.mono ?_; rintro e w2 ⟨rfl, hB2⟩; obtain ⟨W3, hW3⟩ : ∃ W3, World.alloc w2 (.cells #[.int .i64 ((f : Int) / 256)] 3) = W3 := ⟨_, rfl⟩; have hB3 : Below w2.heap.size w2 W3 := (by rw [← hW3]; exact below_new1 _ _); have hE3 : Holds W3 w2.heap.size 3 #[.int .i64 ((f : Int) / 256)] := (by rw [← hW3]; exact Holds.new _ _ _); have hc3 : W3.cell? ⟨w2.heap.size, 0, none⟩ = some (.int .i64 ((f : Int) / 256)) := hE3.cell 0; have hV3 := (h.below hB2).below hB3; have hl3 := run_look hV3.map (u := ((f / 256 : Nat) : Int)) (wfI (by omega) (by omega)); rw [atI_nat, show ((f / 256 : Nat) : Int) = (f : Int) / 256 by simp] at hl3; have hbw := below_any (atU M (f / 256)) (f % 256) W3; rw [show ((f % 256 : Nat) : Int) = (f : Int) % 256 by simp] at hbw; rw [HCR.out] at hbw; generalize contA (atU M (f / 256)) = c0 at hl3 hbw)
        | (go_at_call 50; refine hbw.mono ?_; rintro e w4 ⟨rfl, hB4⟩; obtain ⟨W5, hW5⟩ : ∃ W5, World.alloc w4 (.cells (contA fun _ => false) 76) = W5 := ⟨_, rfl⟩; have hB5 : Below w4.heap.size w4 W5 := (by rw [← hW5]; exact below_new1 _ _); have hR5 : Holds W5 w4.heap.size 76 (contA fun _ => false) := (by rw [← hW5]; exact Holds.new _ _ _); rw [zeroC] at hW5)
        | (refine wpList_stK rfl _ _ rfl rfl rfl hR5 hCR hZ ?_; intro W6 hR6 hO6 hs6; clear hs6; have hB46 : Below w4.heap.size w4 W6 := Only.fresh hB5 hO6 (Nat.le_refl _); have hV6 := (hV3.below hB4).below hB46; have hE6 := below_holds hB46 (below_holds hB4 hE3); rw [show (f : Int) / 256 = ((f / 256 : Nat) : Int) by simp] at hE6; have hdl := del_any hV6.map hE6)
        | (go_at_call 51; refine hdl.mono ?_; rintro e w7 ⟨rfl, hM7, hO7⟩; have hO67 : OnlyM (some m) W6 w7 := OnlyM.onlyS hO7; have hR7 := hO67.holds hR6 (map_ne hV6.map hR6); have hE7 := hO67.holds hE6 (map_ne hV6.map hE6); have hV7 := hV6.onlyM hO67 hM7)
        | (go_at_call 45; refine (hct _).mono ?_; rintro e w8 ⟨rfl, hB8⟩; have hR8 := below_holds hB8 hR7; have hE8 := below_holds hB8 hE7; have hV8 := hV7.below hB8; have hM8 : MapAt w8 m _ := hV8.map; have hc8 : w8.cell? ⟨w2.heap.size, 0, none⟩ = some (.int .i64 ((f / 256 : Nat) : Int)) := hE8.cell 0)
        | (refine wpList_ldK rfl _ rfl rfl hR7 hCR ?_)
        | (refine wpList_ldK rfl _ rfl rfl hR8 hCR ?_)
        | (refine wpList_updK (u := f / 256) rfl _ _ _ rfl rfl rfl rfl HCR.out.symm hM8 hfN hex ?_; intro w9 hM9 hO9 hs9; clear hs9; rw [cut_set] at hM9; have hV9 := hV8.onlyM (OnlyM.only hO9) hM9; have hl9 := hln2 w9 hV9)
        | (go_at_call 24; refine hl9.mono ?_; rintro e wA ⟨rfl, hBA⟩))
    refine bodyPost_ret (results_tmp rfl _ _ _) rfl ?_
    exact ⟨rfl, hV9.below hBA, ((hO hB2 hB3 hB4 hB46 hO67 hB8).trans (OnlyM.only hO9)).trans (OnlyM.below hBA)⟩
  · have hz : cnt (fun l => atU M (f / 256) l && decide (l < f % 256)) = 0 := by
      exact Nat.eq_zero_of_not_pos (fun q => hex (cnt_pos.1 q))
    rw [hz] at hct
    go_enter Try.func30, Try.ntmps30
    go_wp2_with (first
        | (go_at_call 44; refine hh.mono ?_; rintro e w1 ⟨rfl, rfl⟩)
        | (go_at_call 24; refine hln.mono ?_; rintro e w2 ⟨rfl, hB2⟩; obtain ⟨W3, hW3⟩ : ∃ W3, World.alloc w2 (.cells #[.int .i64 ((f : Int) / 256)] 3) = W3 := ⟨_, rfl⟩; have hB3 : Below w2.heap.size w2 W3 := (by rw [← hW3]; exact below_new1 _ _); have hE3 : Holds W3 w2.heap.size 3 #[.int .i64 ((f : Int) / 256)] := (by rw [← hW3]; exact Holds.new _ _ _); have hc3 : W3.cell? ⟨w2.heap.size, 0, none⟩ = some (.int .i64 ((f : Int) / 256)) := hE3.cell 0; have hV3 := (h.below hB2).below hB3; have hl3 := run_look hV3.map (u := ((f / 256 : Nat) : Int)) (wfI (by omega) (by omega)); rw [atI_nat, show ((f / 256 : Nat) : Int) = (f : Int) / 256 by simp] at hl3; have hbw := below_any (atU M (f / 256)) (f % 256) W3; rw [show ((f % 256 : Nat) : Int) = (f : Int) % 256 by simp] at hbw; rw [HCR.out] at hbw; generalize contA (atU M (f / 256)) = c0 at hl3 hbw)
        | (go_at_call 50; refine hbw.mono ?_; rintro e w4 ⟨rfl, hB4⟩; obtain ⟨W5, hW5⟩ : ∃ W5, World.alloc w4 (.cells (contA fun _ => false) 76) = W5 := ⟨_, rfl⟩; have hB5 : Below w4.heap.size w4 W5 := (by rw [← hW5]; exact below_new1 _ _); have hR5 : Holds W5 w4.heap.size 76 (contA fun _ => false) := (by rw [← hW5]; exact Holds.new _ _ _); rw [zeroC] at hW5)
        | (refine wpList_stK rfl _ _ rfl rfl rfl hR5 hCR hZ ?_; intro W6 hR6 hO6 hs6; clear hs6; have hB46 : Below w4.heap.size w4 W6 := Only.fresh hB5 hO6 (Nat.le_refl _); have hV6 := (hV3.below hB4).below hB46; have hE6 := below_holds hB46 (below_holds hB4 hE3); rw [show (f : Int) / 256 = ((f / 256 : Nat) : Int) by simp] at hE6; have hdl := del_any hV6.map hE6)
        | (go_at_call 51; refine hdl.mono ?_; rintro e w7 ⟨rfl, hM7, hO7⟩; have hO67 : OnlyM (some m) W6 w7 := OnlyM.onlyS hO7; have hR7 := hO67.holds hR6 (map_ne hV6.map hR6); have hE7 := hO67.holds hE6 (map_ne hV6.map hE6); have hV7 := hV6.onlyM hO67 hM7)
        | (go_at_call 45; refine (hct _).mono ?_; rintro e w8 ⟨rfl, hB8⟩; have hR8 := below_holds hB8 hR7; have hE8 := below_holds hB8 hE7; have hV8 := hV7.below hB8; have hM8 : MapAt w8 m _ := hV8.map; have hc8 : w8.cell? ⟨w2.heap.size, 0, none⟩ = some (.int .i64 ((f / 256 : Nat) : Int)) := hE8.cell 0; rw [cut_rest hex] at hV8; have hl8 := hln2 w8 hV8)
        | (refine wpList_ldK rfl _ rfl rfl hR7 hCR ?_)
        | (refine wpList_ldK rfl _ rfl rfl hR8 hCR ?_)
        | (go_at_call 24; refine hl8.mono ?_; rintro e wA ⟨rfl, hBA⟩))
    refine bodyPost_ret (results_tmp rfl _ _ _) rfl ?_
    exact ⟨rfl, hV8.below hBA, (hO hB2 hB3 hB4 hB46 hO67 hB8).trans (OnlyM.below hBA)⟩

set_option maxRecDepth 8000 in
theorem del_nil (fv : Value) (w : World) : Calls Try.prog 51 #[.map none, fv] w fun e w' => e = .returned (.tuple #[]) ∧ Below w.heap.size w w' := by
  have h : MapV w none (fun _ => false) := fun _ => rfl
  go_enter Try.func51, Try.ntmps51
  go_wp2_with (first
    | (at_range; refine wpList_rangeV rfl _ rfl rfl h ?_; intro w0 cnt0 hrg0 hB0 hs0)
    | go_in)
  go_frame
  go_loopw [8] (fun _ wr => wr = w0) (fun _ _ => 0)
  case atStart => rfl
  case round =>
    subst hrel
    go_wp2_with (first
      | (at_next; refine wpList_nextV rfl _ rfl rfl hrg0 ?_ ?_)
      | go_in)
    · intro hl0
      go_wp2_with fail
      go_end0
      exact ⟨rfl, hB0⟩
    · intro u w2 ct2 hu hlv hlf
      obtain ⟨l, _, hl⟩ := hlv
      cases hl

set_option maxRecDepth 8000 in
theorem cut_none {w : World} {s : Value} {M : Nat → Bool} (h : View w s none M) (fr : Int) (hfr : fr ≤ 9223372036854775807) :
    Calls Try.prog 30 #[s, .int .i64 fr] w fun e w' => e = .returned (.int .i64 0) ∧ View w' s none M ∧ Below w.heap.size w w' := by
  obtain ⟨f, hf⟩ : ∃ f, fr.toNat = f := ⟨_, rfl⟩
  have hmax : max fr 0 = (f : Int) := by omega
  have hf1 : (f : Int) ≤ 9223372036854775807 := by omega
  have hf0 : (0 : Int) ≤ f := by omega
  clear hf
  have hh := held_any h
  have hln := len_any h
  have hc1 := card_le M
  have hln2 := fun (W : World) (hW : View W s none M) => len_any hW
  generalize card M = cd at hln hc1 hln2
  have hZ := IsC.mk fun _ => false
  have hCR := IsC.mk (fun l => false && decide (l < f % 256))
  have hct := count5 (fun l => false && decide (l < f % 256))
  have hz : cnt (fun l => false && decide (l < f % 256)) = 0 := Nat.eq_zero_of_not_pos (fun q => by obtain ⟨l, _, hl⟩ := cnt_pos.1 q; simp at hl)
  rw [hz] at hct
  obtain ⟨cr, hcr⟩ : ∃ cr, contA (fun l => false && decide (l < f % 256)) = cr := ⟨_, rfl⟩
  have HCR : Hid (contA (fun l => false && decide (l < f % 256)) = cr) := hcr
  rw [hcr] at hCR hct
  clear hcr hz
  go_enter Try.func30, Try.ntmps30
  go_wp2_with (first
      | (go_at_call 44; refine hh.mono ?_; rintro e w1 ⟨rfl, rfl⟩)
      | (go_at_call 24; refine hln.mono ?_; rintro e w2 ⟨rfl, hB2⟩; obtain ⟨W3, hW3⟩ : ∃ W3, World.alloc w2 (.cells #[.int .i64 ((f : Int) / 256)] 3) = W3 := ⟨_, rfl⟩; have hB3 : Below w2.heap.size w2 W3 := (by rw [← hW3]; exact below_new1 _ _); have hE3 : Holds W3 w2.heap.size 3 #[.int .i64 ((f : Int) / 256)] := (by rw [← hW3]; exact Holds.new _ _ _); have hc3 : W3.cell? ⟨w2.heap.size, 0, none⟩ = some (.int .i64 ((f : Int) / 256)) := hE3.cell 0; have hV3 := (h.below hB2).below hB3; have hl3 := run_look_nil W3 (u := ((f / 256 : Nat) : Int)) (wfI (by omega) (by omega)); rw [show ((f / 256 : Nat) : Int) = (f : Int) / 256 by simp] at hl3; have hbw := below_any (fun _ => false) (f % 256) W3; rw [show ((f % 256 : Nat) : Int) = (f : Int) % 256 by simp] at hbw; rw [HCR.out] at hbw; generalize contA (fun _ => false) = c0 at hl3 hbw)
      | (go_at_call 50; refine hbw.mono ?_; rintro e w4 ⟨rfl, hB4⟩; obtain ⟨W5, hW5⟩ : ∃ W5, World.alloc w4 (.cells (contA fun _ => false) 76) = W5 := ⟨_, rfl⟩; have hB5 : Below w4.heap.size w4 W5 := (by rw [← hW5]; exact below_new1 _ _); have hR5 : Holds W5 w4.heap.size 76 (contA fun _ => false) := (by rw [← hW5]; exact Holds.new _ _ _); rw [zeroC] at hW5)
      | (refine wpList_stK rfl _ _ rfl rfl rfl hR5 hCR hZ ?_; intro W6 hR6 hO6 hs6; clear hs6; have hB46 : Below w4.heap.size w4 W6 := Only.fresh hB5 hO6 (Nat.le_refl _); have hV6 := (hV3.below hB4).below hB46; have hE6 := below_holds hB46 (below_holds hB4 hE3); rw [show (f : Int) / 256 = ((f / 256 : Nat) : Int) by simp] at hE6; have hdl := del_nil (.func (.func 52) #[] #[.pointer (some ⟨w2.heap.size, 0, none⟩)]) W6)
      | (go_at_call 51; refine hdl.mono ?_; rintro e w7 ⟨rfl, hB7⟩; have hR7 := below_holds hB7 hR6; have hV7 := hV6.below hB7)
      | (go_at_call 45; refine (hct _).mono ?_; rintro e w8 ⟨rfl, hB8⟩; have hR8 := below_holds hB8 hR7; have hV8 := hV7.below hB8; have hl8 := hln2 w8 hV8)
      | (refine wpList_ldK rfl _ rfl rfl hR7 hCR ?_)
      | (refine wpList_ldK rfl _ rfl rfl hR8 hCR ?_)
      | (go_at_call 24; refine hl8.mono ?_; rintro e wA ⟨rfl, hBA⟩))
  refine bodyPost_ret (results_tmp rfl _ _ _) rfl ?_
  exact ⟨by simp, hV8.below hBA, below_new (below_new (below_new (below_new (below_new (below_new hB2 hB3) hB4) hB46) hB7) hB8) hBA⟩
end Go.Proofs.Ytiokbhbggpibpaa
