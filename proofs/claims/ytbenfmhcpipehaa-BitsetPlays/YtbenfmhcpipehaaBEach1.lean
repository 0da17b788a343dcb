/-
  What Each hands back: a set's members from a number on, rising.
-/
import Derived.Test.YtbenfmhcpipehaaBEachW
import Derived.Test.YtbenfmhcpipehaaBSeqO
namespace Go.Proofs.Ytbenfmhcpipehaa
open Go Go.RowKit Go.Maps
attribute [local go_sem] Oper.semAt_some

/-- The members of one container from a number on. -/
def ofU (M : Nat → Bool) (f u : Nat) : List Nat := (lowsL (atU M u) (f - 256 * u)).map (256 * u + ·)
/-- The members from a number on. -/
noncomputable def memFrom (M : Nat → Bool) (f : Nat) : List Nat := (uppers M (f / 256)).flatMap (ofU M f)

theorem equalIn_func (d l : Nat) (w : World) : (Op.equalIn (d + 1) 35 (.func (.yield l) #[] #[]) .nilFunc).run Try.prog w = .ok false w := by
  simp [Op.equalIn, run_underlying Try.underlying35]
theorem eql_func (l : Nat) (w : World) : (binOp .eql 35 (.func (.yield l) #[] #[]) .nilFunc).run Try.prog w = .ok (.bool false) w := by
  have h : (Op.equal 35 (.func (.yield l) #[] #[]) .nilFunc).run Try.prog w = .ok false w := equalIn_func 9999 l w
  simp only [binOp]
  simp [h]

/-- The members of the first containers. -/
def doneU (M : Nat → Bool) (f : Nat) (us : List Nat) (i : Nat) : List Nat := (us.take i).flatMap (ofU M f)
theorem doneU_all (M : Nat → Bool) (f : Nat) (us : List Nat) : doneU M f us us.length = us.flatMap (ofU M f) := by unfold doneU; rw [List.take_length]
theorem doneU_succ {M : Nat → Bool} {f : Nat} {us : List Nat} {i u : Nat} (h : us[i]? = some u) : doneU M f us (i + 1) = doneU M f us i ++ ofU M f u := by
  unfold doneU
  have hi := (List.getElem?_eq_some_iff.1 h).1
  rw [List.take_succ_eq_append_getElem hi, List.flatMap_append, List.flatMap_cons, List.flatMap_nil, List.append_nil]
  rw [List.getElem?_eq_getElem hi] at h
  injection h with h
  rw [h]
theorem doneU_split {M : Nat → Bool} {f : Nat} {us : List Nat} {i u : Nat} (h : us[i]? = some u) : ∃ R, us.flatMap (ofU M f) = doneU M f us i ++ (ofU M f u ++ R) := by
  have hi := (List.getElem?_eq_some_iff.1 h).1
  refine ⟨(us.drop (i + 1)).flatMap (ofU M f), ?_⟩
  rw [← List.append_assoc, ← doneU_succ h]
  unfold doneU
  rw [← List.flatMap_append, List.take_append_drop]
theorem marks_below {B : Nat} {w w' : World} (hb : Below w.heap.size w w') : ∀ {ds : List Deferred}, Marks B ds w → Marks B ds w'
  | [], _ => trivial
  | _ :: _, ⟨⟨D, h1, h2, h3, h4⟩, hr⟩ => ⟨⟨D, h1, h2, (hb.block D (Array.getElem?_eq_some_iff.1 h3).1).trans h3, h4⟩, marks_below hb hr⟩

theorem KeepO.up {B B' : Nat} {O : Nat → Prop} {W W' : World} (h : KeepO B O W W') (hB : B ≤ B') : KeepO B' O W W' := ⟨h.1, fun k h1 h2 h3 => h.2 k (by omega) h2 h3⟩
theorem KeepO.holds {B : Nat} {O : Nat → Prop} {W W' : World} (h : KeepO B O W W') {b : Nat} {t : TypeId} {cs : Array Value} (hh : Holds W b t cs) (hb : B ≤ b) (ho : ¬ O b) : Holds W' b t cs := by
  have := hh.lt
  unfold Holds at *
  rw [h.2 b hb this ho]; exact hh
theorem KeepO.marks {B : Nat} {O : Nat → Prop} {W W' : World} (h : KeepO B O W W') (hO : ∀ k, O k → ∃ o : Obj, W.heap[k]? = some o ∧ o.isCells = true) : ∀ {ds : List Deferred}, Marks B ds W → Marks B ds W'
  | [], _ => trivial
  | _ :: _, ⟨⟨D, h1, h2, h3, h4⟩, hr⟩ => ⟨⟨D, h1, h2, (h.2 D h2 (Array.getElem?_eq_some_iff.1 h3).1 (fun q => by
      obtain ⟨o, ho, hc⟩ := hO D q
      rw [h3] at ho; cases ho; cases hc)).trans h3, h4⟩, h.marks hO hr⟩
theorem KeepO.from {B B' : Nat} {O : Nat → Prop} {W W' : World} (h : KeepO B O W W') (hO : ∀ k, O k → ∃ o : Obj, W.heap[k]? = some o ∧ o.isCells = true) (hB : B ≤ B') : KeepsFrom B' W W' :=
  ⟨h.1, fun k o hk ho hc => (h.2 k (by omega) (Array.getElem?_eq_some_iff.1 ho).1 (fun q => by
    obtain ⟨o', ho', hc'⟩ := hO k q
    rw [ho] at ho'; cases ho'; rw [hc] at hc'; cases hc')).trans ho⟩
theorem marks_kept {A B : World} {row : Option Nat} {Bd n : Nat} (hg : A.grownBy B row) (hr : ∀ r, row = some r → Bd ≤ r ∧ ∃ o : Obj, A.heap[r]? = some o ∧ o.isCells = false) : ∀ {ds : List Deferred}, (∀ d ∈ ds, ∀ D, d.target = .collected D → D < Bd) → Marks n ds A → Marks n ds B
  | [], _, _ => trivial
  | d :: _, hd, ⟨⟨D, h1, h2, h3, h4⟩, hs⟩ => ⟨⟨D, h1, h2, (hg.block D (Array.getElem?_eq_some_iff.1 h3).1 (fun e => by
      have := (hr D e.symm).1
      have := hd d (by simp) D (by rw [h1])
      omega)).trans h3, h4⟩, marks_kept hg hr (fun d' hm => hd d' (by simp [hm])) hs⟩
theorem marks_lt {n : Nat} {w : World} : ∀ {ds : List Deferred}, Marks n ds w → ∀ d ∈ ds, ∀ D, d.target = .collected D → D < w.heap.size
  | [], _, d, hd, _, _ => by cases hd
  | d0 :: ds, ⟨⟨D0, h1, h2, h3, h4⟩, hs⟩, d, hd, D, hD => by
    rcases List.mem_cons.1 hd with rfl | h
    · rw [h1] at hD
      injection hD with hD
      subst hD
      exact (Array.getElem?_eq_some_iff.1 h3).1
    · exact marks_lt hs d h D hD
theorem Marks.cons {n D : Nat} {w : World} {ds : List Deferred} (h : Marks n ds w) (hD : n ≤ D) (hh : w.heap[D]? = some (.deferred (some []))) (hne : ∀ d ∈ ds, ∀ D', d.target = .collected D' → D' < D) : Marks n ({ target := .collected D, args := #[] } :: ds) w :=
  ⟨⟨D, rfl, hD, hh, fun d hd e => by have := hne d hd D e; omega⟩, h⟩
theorem parts_kept {A B : World} {row : Option Nat} {Bd : Nat} (hg : A.grownBy B row) (hr : ∀ r, row = some r → Bd ≤ r ∧ ∃ o : Obj, A.heap[r]? = some o ∧ o.isCells = false) {g : Nat} (hgl : g < Bd) (hga : g < A.heap.size) {M : Nat → Bool} {us : List Nat} (h : PartsIn A g M us) : PartsIn B g M us :=
  h.keep (hg.block g hga (fun e => by have := (hr g e.symm).1; omega))

theorem leaves_marksJ {P : Program} {fn : Func} {tmps : Array Value} {R : Ending → World → Prop} {B : Nat} {I : World → Prop} (hI : ∀ (A : World) (D : Nat), I A → B ≤ D → A.heap[D]? = some (.deferred (some [])) → I (A.putObj D (.deferred none))) : ∀ {ds : List Deferred} {w : World}, Marks B ds w → I w →
    (∀ w', Shut B w w' → I w' → ∃ v, (results fn tmps).run P w' = .ok v w' ∧ R (.returned v) w') → LeavesInM Fence.wide 0 P fn tmps R ds .returning w
  | [], w, _, hi, h => h w (Shut.refl _ _) hi
  | d :: ds, w, ⟨⟨D, hd, hB, hh, hne⟩, hr⟩, hi, h => by
    refine ⟨by simp, .inl ⟨D, _, by rw [hd], run_takeDeferred hh, leaves_marksJ hI (hr.put hne) (hI w D hi hB hh) fun w' hw' hi' => h w' (hw'.put hB hh) hi'⟩⟩
theorem own_put {β : Type} {B : Nat} {I : β → World → Prop} (h : OwnFrom B I) (s : β) : ∀ (A : World) (D : Nat), I s A → B ≤ D → A.heap[D]? = some (.deferred (some [])) → I s (A.putObj D (.deferred none)) :=
  fun _ _ hi hB hh => h.putObj _ hi hB hh rfl

set_option maxRecDepth 8000 in
set_option maxHeartbeats 2000000 in
theorem each_in (M : Nat → Bool) (f bl bf g cap l : Nat) (us : List Nat) (J : List Nat → (Nat → Prop) → World → Prop) (Jx : List Nat → World → Prop) (W : World) (hl : Holds W bl 89 #[.slice (some ⟨g, 0, none⟩) us.length cap]) (hF : Holds W bf 3 #[.int .i64 (f : Nat)]) (hP : PartsIn W g M us) (hus : ∀ u ∈ us, u < NU) (hfm : f ≤ 9223372036854775807) (hgl : g < W.heap.size) (hlen : us.length ≤ 8388608)
    (hJ : ∀ O, OwnFrom W.heap.size (fun pre W => J pre O W)) (hJx : OwnFrom W.heap.size Jx) (hOc : ∀ pre O W, J pre O W → ∀ k, O k → ∃ o : Obj, W.heap[k]? = some o ∧ o.isCells = true)
    (hY : ∀ pre x rest O W1, us.flatMap (ofU M f) = pre ++ x :: rest → J pre O W1 → YieldAt Fence.wide 0 Try.prog l #[.int .i64 (x : Nat)] W1 fun e W' =>
      (e = .returned (.bool true) ∧ ∃ O', J (pre ++ [x]) O' W' ∧ (∀ k, O' k → O k ∨ W1.heap.size ≤ k) ∧ KeepB (fun k => k = bf ∨ k = g) W1 W' ∧ KeepO W.heap.size O W1 W') ∨ (e = .returned (.bool false) ∧ Jx (pre ++ [x]) W' ∧ KeepO W.heap.size O W1 W'))
    (h0 : J [] (fun _ => False) W) :
    Calls Try.prog 68 #[.func (.yield l) #[] #[], .pointer (some ⟨bl, 0, none⟩), .pointer (some ⟨bf, 0, none⟩)] W fun e W' => (∃ v, e = .returned v) ∧ ((∃ O, J (us.flatMap (ofU M f)) O W') ∨ ∃ pre x rest, us.flatMap (ofU M f) = pre ++ x :: rest ∧ Jx (pre ++ [x]) W') := by
  obtain ⟨W0, hW0⟩ : ∃ W0, World.alloc W (.cells #[.func (.yield l) #[] #[]] 35) = W0 := ⟨_, rfl⟩
  have hy : Holds W0 W.heap.size 35 #[.func (.yield l) #[] #[]] := by rw [← hW0]; exact Holds.new _ _ _
  have hB0 : Below W.heap.size W W0 := by rw [← hW0]; exact below_new1 _ _
  have hyc : W0.cell? ⟨W.heap.size, 0, none⟩ = some (.func (.yield l) #[] #[]) := hy.cell 0
  have hlc : W0.cell? ⟨bl, 0, none⟩ = some (.slice (some ⟨g, 0, none⟩) us.length cap) := (below_holds hB0 hl).cell 0
  have hef := eql_func l
  have HY : Hid (∀ pre x rest O W1, us.flatMap (ofU M f) = pre ++ x :: rest → J pre O W1 → YieldAt Fence.wide 0 Try.prog l #[.int .i64 (x : Nat)] W1 fun e W' =>
      (e = .returned (.bool true) ∧ ∃ O', J (pre ++ [x]) O' W' ∧ (∀ k, O' k → O k ∨ W1.heap.size ≤ k) ∧ KeepB (fun k => k = bf ∨ k = g) W1 W' ∧ KeepO W.heap.size O W1 W') ∨ (e = .returned (.bool false) ∧ Jx (pre ++ [x]) W' ∧ KeepO W.heap.size O W1 W')) := hY
  have hbfl := hF.lt
  clear hY
  refine calls_of_wp_marks Try.func68 rfl ?_
  simp only [Try.ntmps68, List.size_toArray, List.length_cons, List.length_nil, Nat.reduceAdd, Nat.reduceSub, Array.replicate_succ, Array.replicate_zero, List.push_toArray, List.append_toArray, List.nil_append, List.cons_append]
  go_wp2_with fail
  refine wp_loop (fun a wr => ∃ (i : Nat) (u5 u6 u13 u14 u15 u16 u17 u18 u19 u20 u21 u22 u23 u24 u32 : Value) (ds : List Deferred),
      a = { tmps := #[.func (.yield l) #[] #[], .pointer (some ⟨bl, 0, none⟩), .pointer (some ⟨bf, 0, none⟩), .pointer (some ⟨W.heap.size, 0, none⟩), undef, u5, u6, undef, .func (.yield l) #[] #[], .bool false, .slice (some ⟨g, 0, none⟩) us.length cap, .int .i64 (us.length : Nat), .int .i64 (i : Nat), u13, u14, u15, u16, u17, u18, u19, u20, u21, u22, u23, u24, undef, undef, undef, undef, undef, undef, undef, u32], defers := ds } ∧
      i ≤ us.length ∧ Marks W.heap.size ds wr ∧ (∃ O, J (doneU M f us i) O wr ∧ ¬ O W.heap.size) ∧ Holds wr W.heap.size 35 #[.func (.yield l) #[] #[]] ∧ Holds wr bf 3 #[.int .i64 (f : Nat)] ∧ PartsIn wr g M us ∧ W.heap.size ≤ wr.heap.size ∧ g < wr.heap.size) (fun a _ => us.length - (intOf (a.tmps.getD 12 undef)).toNat) ?_ ?_
  · exact ⟨0, undef, undef, undef, undef, undef, undef, undef, undef, undef, undef, undef, undef, undef, undef, undef, [], rfl, Nat.zero_le _, trivial, ⟨_, OwnFrom.grow (hJ _) (s := []) h0 hB0, id⟩, hy, below_holds hB0 hF, hP.keep (hB0.block g hgl), hB0.size, by have := hB0.size; omega⟩
  · rintro a wr ⟨i, u5, u6, u13, u14, u15, u16, u17, u18, u19, u20, u21, u22, u23, u24, u32, ds, rfl, hi, hmk, ⟨O, hj, hOy⟩, hyr, hfr, hpr, hsz, hgr⟩
    clear hW0 hy hB0 hyc hlc hl hF hP h0
    by_cases hlt : i < us.length
    · have hii : (i : Int) < us.length := by omega
      have hil : (i : Int) < 8388608 := by omega
      have hi0 : (0 : Int) ≤ i := by omega
      obtain ⟨u, hu⟩ : ∃ u, us[i]? = some u := ⟨_, List.getElem?_eq_getElem hlt⟩
      have huN := hus u (List.mem_of_getElem? hu)
      rw [NU_eq] at huN
      have hrng := hpr.range hu
      obtain ⟨R, hsp⟩ := doneU_split (M := M) (f := f) hu
      have hnx := doneU_succ (M := M) (f := f) hu
      have hC := IsC.mk (atU M u)
      have hlw := lows_any (atU M u) ((f : Int) - (u : Int) * 256)
      have hto : ((f : Int) - (u : Int) * 256).toNat = f - 256 * u := by omega
      generalize hcs : contA (atU M u) = cs at hrng hC hlw
      have HU : Hid (us[i]? = some u) := hu
      have HS : Hid (us.flatMap (ofU M f) = doneU M f us i ++ (ofU M f u ++ R)) := hsp
      have HN : Hid (doneU M f us (i + 1) = doneU M f us i ++ ofU M f u) := hnx
      have HC : Hid (contA (atU M u) = cs) := hcs
      have HT : Hid (((f : Int) - (u : Int) * 256).toNat = f - 256 * u) := hto
      clear hu hsp hnx hcs hto
      have huI : (u : Int) * 256 ≤ 2147483648 := by omega
      have huI0 : (0 : Int) ≤ (u : Int) * 256 := by omega
      have hfI : (f : Int) ≤ 9223372036854775807 := by omega
      have hfI0 : (0 : Int) ≤ f := by omega
      obtain ⟨W1, hW1⟩ : ∃ W1, World.alloc wr (.cells zero33 92) = W1 := ⟨_, rfl⟩
      have h1 : Holds W1 wr.heap.size 92 zero33 := by rw [← hW1]; exact Holds.new _ _ _
      have hB1 : Below wr.heap.size wr W1 := by rw [← hW1]; exact below_new1 _ _
      rw [zero33_eq] at hW1
      go_wp2_with (first
        | (refine wpList_ldP rfl _ rfl rfl hrng hC ?_)
        | (refine wpList_stP rfl _ _ rfl rfl rfl hC h1 rfl ?_; intro W2 h2 hO2 hs2; clear hs2; have hB2 : Below wr.heap.size wr W2 := Only.fresh hB1 hO2 (Nat.le_refl _); have hc2 : W2.cell? ⟨wr.heap.size, 0, none⟩ = some (.int .i64 (u : Nat)) := (h2.cell 0).trans (partA_zero u cs); obtain ⟨W3, hW3⟩ : ∃ W3, World.alloc W2 (.cells #[.int .i64 ((u : Int) * 256)] 3) = W3 := ⟨_, rfl⟩; have hB3 : Below W2.heap.size W2 W3 := (by rw [← hW3]; exact below_new1 _ _); have h3 : Holds W3 W2.heap.size 3 #[.int .i64 ((u : Int) * 256)] := (by rw [← hW3]; exact Holds.new _ _ _); have h23 := below_holds hB3 h2; have hc3 : W3.cell? ⟨W2.heap.size, 0, none⟩ = some (.int .i64 ((u : Int) * 256)) := h3.cell 0; have hf3 : W3.cell? ⟨bf, 0, none⟩ = some (.int .i64 (f : Nat)) := (below_holds hB3 (below_holds hB2 hfr)).cell 0)
        | (refine wpList_ldPC rfl _ rfl rfl h23 hC ?_)
        | (go_at_call 65; refine (hlw _).mono ?_; rintro e w4 ⟨b, rfl, hb, hCb, hFb, hB4⟩))
      have hO0 := hOc _ _ _ hj
      have hBw : Below wr.heap.size wr w4 := below_new (below_new hB2 hB3) hB4
      have hb2 : wr.heap.size < W2.heap.size := h2.lt
      have hb3 : W2.heap.size < W3.heap.size := h3.lt
      have hbl4 := hCb.lt
      have hCb' : Holds w4 b 74 (contA (atU M u)) := by rw [HC.out]; exact hCb
      have hOlt : ∀ k, O k → k < wr.heap.size := fun k q => by
        obtain ⟨o, ho, _⟩ := hO0 k q
        exact (Array.getElem?_eq_some_iff.1 ho).1
      have hdl := marks_lt hmk
      have hseq := lows_seq (atU M u) ((f : Int) - (u : Int) * 256) b (b + 1) w4 hCb' hFb
      rw [HT.out] at hseq
      refine wp_rangeSeq rfl (enters_of Try.func79 (by kernel_rfl) rfl) hseq (Below.refl _ _) (fun k hk => by subst hk; exact hbl4)
        (fun pre W' => (∃ O, J (doneU M f us i ++ pre.map (256 * u + ·)) O W' ∧ ¬ O W.heap.size ∧ ¬ O W2.heap.size ∧ ¬ O b) ∧ Holds W' W.heap.size 35 #[.func (.yield l) #[] #[]] ∧ Holds W' W2.heap.size 3 #[.int .i64 ((u : Int) * 256)] ∧ Holds W' b 74 (contA (atU M u)) ∧ Holds W' bf 3 #[.int .i64 (f : Nat)] ∧ PartsIn W' g M us ∧ Marks W.heap.size ds W' ∧ w4.heap.size ≤ W'.heap.size)
        (fun c pre W' => c = .ret ∧ Jx (doneU M f us i ++ pre.map (256 * u + ·)) W' ∧ Marks W.heap.size ds W')
        (fun s A B row hs hg hr => by
          obtain ⟨⟨O, h1, h2, h3, h4⟩, h5, h6, h7, h8, h9, h10, h11⟩ := hs
          exact ⟨⟨O, OwnFrom.up (hJ O) (by have := hBw.size; omega) _ A B row h1 hg hr, h2, h3, h4⟩, holds_kept hg hr h5, holds_kept hg hr h6, holds_kept hg hr h7, holds_kept hg hr h8, parts_kept hg hr (by have := hBw.size; omega) (by have := hBw.size; omega) h9, marks_kept hg hr (fun d hd D hD => by have := hdl d hd D hD; have := hBw.size; omega) h10, Nat.le_trans h11 hg.size⟩)
        (fun c s A B row hs hg hr => by
          obtain ⟨h1, h2, h3⟩ := hs
          exact ⟨h1, OwnFrom.up hJx (by have := hBw.size; omega) _ A B row h2 hg hr, marks_kept hg hr (fun d hd D hD => by have := hdl d hd D hD; have := hBw.size; omega) h3⟩)
        ⟨⟨O, by rw [List.map_nil, List.append_nil]; exact OwnFrom.grow (hJ O) (s := doneU M f us i) hj hBw, hOy, fun q => by have := hOlt _ q; omega, fun q => by have := hOlt _ q; omega⟩, below_holds hBw hyr, below_holds hB4 h3, hCb', below_holds hBw hfr, hpr.keep (hBw.block g hgr), marks_below hBw hmk, Nat.le_refl _⟩
        (fun x => { tmps := #[.func (.yield l) #[] #[], .pointer (some ⟨bl, 0, none⟩), .pointer (some ⟨bf, 0, none⟩), .pointer (some ⟨W.heap.size, 0, none⟩), undef, .pointer (some ⟨wr.heap.size, 0, none⟩), .pointer (some ⟨W2.heap.size, 0, none⟩), .int .i64 (x : Nat), .func (.yield l) #[] #[], .bool false, .slice (some ⟨g, 0, none⟩) us.length cap, .int .i64 (us.length : Nat), .int .i64 (i : Nat), .bool true, .pointer (some ⟨g, i * 33, none⟩), .agg (partA u cs), .pointer (some ⟨wr.heap.size, 0, none⟩), .int .i64 (u : Nat), .int .i64 ((u : Int) * 256), .pointer (some ⟨wr.heap.size, 1, none⟩), .agg cs, .int .i64 (f : Nat), .int .i64 ((u : Int) * 256), .int .i64 ((f : Int) - (u : Int) * 256), .func (.func 79) #[] #[.pointer (some ⟨b + 1, 0, none⟩), .pointer (some ⟨b, 0, none⟩)], .int .i64 (x : Nat), undef, undef, undef, undef, undef, undef, u32], defers := [] }) ?assign ?body ?done ?stop
      case assign =>
        intro l' x W' K hK
        gi_wp2
        exact hK
      case body =>
        rintro l' pre x rest W' hL hsz4 ⟨⟨O', hj', o1, o2, o3⟩, k1, k2, k3, k4, k5, k6, k7⟩
        have hx := (lowsL_lt (by rw [hL]; simp : x ∈ lowsL (atU M u) (f - 256 * u))).2.1
        have hsplit : us.flatMap (ofU M f) = (doneU M f us i ++ pre.map (256 * u + ·)) ++ (256 * u + x) :: (rest.map (256 * u + ·) ++ R) := by
          rw [HS.out]
          have : ofU M f u = pre.map (256 * u + ·) ++ (256 * u + x) :: rest.map (256 * u + ·) := by unfold ofU; rw [hL]; simp
          rw [this]
          simp
        have hyy := HY.out _ _ _ O' W' hsplit hj'
        rw [show ((256 * u + x : Nat) : Int) = (u : Int) * 256 + x by omega] at hyy
        obtain ⟨fn, tmps, assign, body, hyd, hR⟩ := hyy
        have hO' := hOc _ _ _ hj'
        have c1 : W'.cell? ⟨W.heap.size, 0, none⟩ = some (.func (.yield l) #[] #[]) := k1.cell 0
        have c2 : W'.cell? ⟨W2.heap.size, 0, none⟩ = some (.int .i64 ((u : Int) * 256)) := k2.cell 0
        have hxI : (x : Int) < 256 := by omega
        have hxI0 : (0 : Int) ≤ x := by omega
        have K1 : Hid (Holds W' W.heap.size 35 #[.func (.yield l) #[] #[]]) := k1
        have K2 : Hid (Holds W' W2.heap.size 3 #[.int .i64 ((u : Int) * 256)]) := k2
        clear hL hsplit k1 k2
        gi_wp2
        refine ⟨rfl, RoundIn.mono (F := Fence.wide.inRound l') hR ?_⟩
        clear hyd hR
        have hw4 : W.heap.size ≤ w4.heap.size := Nat.le_trans hsz hBw.size
        have hbs : W.heap.size ≤ b := by omega
        have hbs2 : b < W'.heap.size := by omega
        have hs2 : W2.heap.size < W'.heap.size := by omega
        rintro e W5 (⟨rfl, O2, hj2, hOO, hkb, hko⟩ | ⟨rfl, hjx, hko⟩)
        · gi_wp2
          refine ⟨hko.from hO' hw4, ⟨hko.1, fun k hk => by rw [show k = b from hk]; exact hko.2 b hbs hbs2 o3⟩, ⟨O2, ?_, ?_, ?_, ?_⟩, hko.holds K1.out (Nat.le_refl _) o1, hko.holds K2.out (by omega) o2, hko.holds k3 hbs o3, hkb.holds (.inl rfl) k4, k5.keep (hkb.same g (.inr rfl)), hko.marks hO' k6, Nat.le_trans k7 hko.1⟩
          · rw [List.map_append, ← List.append_assoc]; exact hj2
          · intro q; rcases hOO _ q with q | q
            · exact o1 q
            · omega
          · intro q; rcases hOO _ q with q | q
            · exact o2 q
            · omega
          · intro q; rcases hOO _ q with q | q
            · exact o3 q
            · omega
        · gi_wp2
          exact ⟨hko.from hO' hw4, rfl, by rw [List.map_append, ← List.append_assoc]; exact hjx, hko.marks hO' k6⟩
      case done =>
        rintro D W' hD ⟨⟨O', hj', o1, o2, o3⟩, k1, k2, k3, k4, k5, k6, k7⟩ hK
        clear hseq hCb hCb' hFb hB4 hb h23 hc3 hf3 h3 hW3 hc2 h2 hO2 h1 hW1
        have hwr := hBw.size
        go_wp2_with fail
        refine ⟨⟨i + 1, _, _, _, _, _, _, _, _, _, _, _, _, _, _, _, _, rfl, by omega, Marks.cons k6 (by omega) hK (fun d hd D' hD' => by have := hdl d hd D' hD'; omega), ⟨O', ?_, o1⟩, k1, k4, k5, by omega, by omega⟩, ?_⟩
        · rw [HN.out]; exact hj'
        · simp [intOf]; omega
      case stop =>
        rintro D c pre x rest W' hD hL ⟨rfl, hjx, hmk'⟩ hK
        clear hseq hCb hCb' hFb hB4 hb h23 hc3 hf3 h3 hW3 hc2 h2 hO2 h1 hW1
        have hwr := hBw.size
        have hsplit : us.flatMap (ofU M f) = (doneU M f us i ++ pre.map (256 * u + ·)) ++ (256 * u + x) :: (rest.map (256 * u + ·) ++ R) := by
          rw [HS.out]
          have : ofU M f u = pre.map (256 * u + ·) ++ (256 * u + x) :: rest.map (256 * u + ·) := by unfold ofU; rw [hL]; simp
          rw [this]
          simp
        have HSP : Hid _ := hsplit
        clear hsplit hL
        go_wp2_with fail
        refine leaves_marksJ (own_put hJx _) (Marks.cons hmk' (by omega) hK (fun d hd D' hD' => by have := hdl d hd D' hD'; omega)) hjx fun w' hw' hjx' => ⟨_, results_none rfl _ _ _, ⟨_, rfl⟩, .inr ⟨_, _, ⟨_, HSP.out⟩, ?_⟩⟩
        rw [List.map_append, ← List.append_assoc] at hjx'
        exact hjx'
    · have hii : ¬ (i : Int) < us.length := by omega
      obtain rfl : i = us.length := by omega
      rw [doneU_all] at hj
      go_wp2_with fail
      exact leaves_marksJ (own_put (hJ O) _) hmk hj fun w' hw' hj' => ⟨_, results_none rfl _ _ _, ⟨_, rfl⟩, .inl ⟨O, hj'⟩⟩
end Go.Proofs.Ytbenfmhcpipehaa
