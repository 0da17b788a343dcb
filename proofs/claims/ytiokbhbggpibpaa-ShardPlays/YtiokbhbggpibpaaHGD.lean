/-
  Texts of this claim, put together.
-/
import Derived.Test.YtiokbhbggpibpaaHSplitV
import Derived.Test.YtiokbhbggpibpaaBGL
/-
  What shard's read does of chunks that are a set's.
-/
namespace Go.Proofs.Ytiokbhbggpibpaa
open Go Go.RowKit

section
variable {ops : Array Oper} {C : World → Prop} {Q : Exit → Act → World → Prop} {t : List Plan} {k : Nat} {op : Oper} {a : Act} {w : World}
/-- As 'plan_val', of an operation with a guard. -/
theorem plan_valG (d : Option Tmp) (hdd : op.dst = d) (hk : ops[k]?.getD default = op) (hw : Region.wanted op (yielded ops a.tmps) = true) (v : Value) (hv : ∀ w, (execOp a.eval op).run Try.prog w = .ok (.value v) w) (h : wpPlan Try.prog ops C Q t (a.put d v) w) : wpPlan Try.prog ops C Q (.take k :: t) a w :=
  ⟨by rw [hk]; exact hw, v, fun w' _ => by rw [hk]; exact hv w', by rw [hk, hdd]; exact h⟩
theorem plan_ldG (d : Option Tmp) (hdd : op.dst = d) (hk : ops[k]?.getD default = op) (hw : Region.wanted op (yielded ops a.tmps) = true) (ty : TypeId) (x : Operand) (ho : op.op = .load ty x) {ad : Addr} (hx : a.eval x = .pointer (some ad)) {v : Value} (hh : ∀ w, C w → (loadVar ty ad).run Try.prog w = .ok v w)
    (h : wpPlan Try.prog ops C Q t (a.put d v) w) : wpPlan Try.prog ops C Q (.take k :: t) a w := by
  refine ⟨by rw [hk]; exact hw, v, fun w' hC => ?_, by rw [hk, hdd]; exact h⟩
  rw [hk]
  unfold execOp
  simp only [ho, hx, Instr.loadAt, Instr.sureAddr, Sem.run_bind, Sem.run_pure, Result.andThen_ok, hh w' hC]
theorem plan_callG (d : Option Tmp) (hdd : op.dst = d) (hk : ops[k]? = some op) (hw : Region.wanted op (yielded ops a.tmps) = true) {f : FuncId} {vs : Array Value} (hf : (execOp a.eval op).run Try.prog w = .ok (.enter f vs) w) (hc : Calls Try.prog f vs w fun e w' => ∃ v, e = .returned v ∧ C w' ∧ wpPlan Try.prog ops C Q t (a.put d v) w') : wpPlan Try.prog ops C Q (.one k :: t) a w := by
  show wpOp Try.prog ops Q k _ a w
  unfold wpOp
  rw [hk]
  dsimp only
  rw [if_pos hw]
  left
  unfold Oper.wp
  rw [hf]
  refine Calls.mono hc ?_
  rintro e w' ⟨v, rfl, h1, h2⟩
  rw [← hdd] at h2
  exact ⟨h1, h2⟩
end
theorem ldIntH {w : World} {ad : Addr} {x : Int} (h : w.cell? ad = some (.int .i64 x)) : (loadVar 3 ad).run Try.prog w = .ok (.int .i64 x) w := by simp [go_sem, h]
/-- Parts of a set. -/
structure Good (ps : List (List Nat)) : Prop where
  parted : Parted ps
  nums : Nums ps.flatten
theorem Good.at {ps : List (List Nat)} (h : Good ps) {i : Nat} {p : List Nat} (hp : ps[i]? = some p) : Nums p ∧ 1 ≤ p.length ∧ p.length ≤ 64 := by
  have hm := List.mem_of_getElem? hp
  exact ⟨h.nums.sub (List.sublist_flatten_of_mem hm), h.parted.one p hm⟩
theorem Parted.full : ∀ {ps : List (List Nat)}, Parted ps → ∀ {i : Nat} {p : List Nat}, ps[i]? = some p → i + 1 < ps.length → p.length = 64
  | [q], _, i, p, _, hi => by simp at hi
  | q :: r :: s, h, 0, p, hp, _ => by
    simp at hp
    rw [← hp]; exact h.1
  | q :: r :: s, h, i + 1, p, hp, hi => h.2.full (i := i) (p := p) (by simpa using hp) (by simpa using hi)
theorem Good.rise {ps : List (List Nat)} (h : Good ps) {i j : Nat} {p q : List Nat} (hij : i < j) (hp : ps[i]? = some p) (hq : ps[j]? = some q) : ∀ x ∈ p, ∀ y ∈ q, x < y := by
  have hr := (List.pairwise_flatten.1 h.nums.rises).2
  obtain ⟨hi, rfl⟩ := List.getElem?_eq_some_iff.1 hp
  obtain ⟨hj, rfl⟩ := List.getElem?_eq_some_iff.1 hq
  exact List.pairwise_iff_getElem.1 hr i j hi hj hij
/-- The greatest of the part ahead. -/
def bef (ps : List (List Nat)) : Nat → Int
  | 0 => -1
  | i + 1 => ((ps[i]?.getD []).getLastD 0 : Nat)
theorem last_mem {p : List Nat} (h : 1 ≤ p.length) : p.getLastD 0 ∈ p := by
  cases p with
  | nil => simp at h
  | cons a l =>
    rw [List.getLastD_cons]
    have := List.getLast_mem (l := a :: l) (by simp)
    rw [List.getLast_eq_getLastD] at this
    exact this
theorem head_mem {p : List Nat} (h : 1 ≤ p.length) : p.headD 0 ∈ p := by
  cases p with
  | nil => simp at h
  | cons a l => simp
theorem bef_lt {ps : List (List Nat)} (h : Good ps) {i : Nat} {p : List Nat} (hp : ps[i]? = some p) : bef ps i < (p.headD 0 : Nat) := by
  cases i with
  | zero => show (-1 : Int) < _; omega
  | succ j =>
    have hj := (List.getElem?_eq_some_iff.1 hp).1
    obtain ⟨q, hq⟩ : ∃ q, ps[j]? = some q := ⟨_, List.getElem?_eq_getElem (by omega)⟩
    show (((ps[j]?.getD []).getLastD 0 : Nat) : Int) < _
    rw [hq, Option.getD_some]
    have := h.rise (Nat.lt_succ_self j) hq hp _ (last_mem (h.at hq).2.1) _ (head_mem (h.at hp).2.1)
    omega
theorem bef_bound {ps : List (List Nat)} (h : Good ps) (i : Nat) (hi : i ≤ ps.length) : -1 ≤ bef ps i ∧ bef ps i < 2147483648 := by
  cases i with
  | zero => exact ⟨by show (-1 : Int) ≤ -1; omega, by show (-1 : Int) < _; omega⟩
  | succ j =>
    obtain ⟨q, hq⟩ : ∃ q, ps[j]? = some q := ⟨_, List.getElem?_eq_getElem (by omega)⟩
    show -1 ≤ (((ps[j]?.getD []).getLastD 0 : Nat) : Int) ∧ (((ps[j]?.getD []).getLastD 0 : Nat) : Int) < _
    rw [hq, Option.getD_some]
    have := (h.at hq).1.bound _ (last_mem (h.at hq).2.1)
    omega
theorem least_head {p : List Nat} (hp : Nums p) {n : Nat} {b : Bool} (h : LeastOf (ofN p) 0 n b) : n = p.headD 0 := by
  have := least_first (ofN_bound hp.bound) h
  rw [hp.mem] at this
  cases p with
  | nil =>
    injection this with this
    injection this with this
    injection this with h1 _
    injection h1 with _ h1
    show n = 0
    omega
  | cons a l =>
    injection this with this
    injection this with this
    injection this with h1 _
    injection h1 with _ h1
    simp
    omega
theorem great_getLast {p : List Nat} (hp : Nums p) {g : Nat} {ok : Bool} (h : GreatOf (ofN p) g ok) : g = p.getLastD 0 := by
  rcases great_last (ofN_bound hp.bound) h with ⟨h1, _, rfl⟩ | ⟨_, h1, h2⟩
  · rw [hp.mem] at h1
    rw [h1]; rfl
  · rw [hp.mem] at h1 h2
    have := last_getD p h1
    rw [List.getD_eq_getElem?_getD, List.getElem?_map, h2] at this
    have e : (g : Int) = ((p.getLastD 0 : Nat) : Int) := this
    omega
def ptrs (Bs : List (Nat × Option Nat)) : List Value := Bs.map fun x => .pointer (some ⟨x.1, 0, none⟩)
/-- A set's blocks. -/
def Own2 (x : Nat × Option Nat) (k : Nat) : Prop := k = x.1 ∨ x.2 = some k
/-- The sets of these parts, each made behind the one ahead. -/
structure SetsAt (w : World) (lo : Nat) (Bs : List (Nat × Option Nat)) (ps : List (List Nat)) : Prop where
  len : Bs.length = ps.length
  sets : ∀ (i : Nat) x p, Bs[i]? = some x → ps[i]? = some p → SetAt w x.1 x.2 (ofN p)
  low : ∀ x ∈ Bs, ∀ k, Own2 x k → lo ≤ k
  apart : Bs.Pairwise fun x y => ∀ k, Own2 x k → ∀ j, Own2 y j → k < j
theorem SetAt.lt {w : World} {b : Nat} {mo : Option Nat} {M : Nat → Bool} (h : SetAt w b mo M) : ∀ k, Own2 (b, mo) k → k < w.heap.size := by
  rintro k (rfl | e)
  · exact h.ptr.lt
  · exact h.map.lt k e
theorem SetsAt.below {w w' : World} {lo : Nat} {Bs : List (Nat × Option Nat)} {ps : List (List Nat)} (h : SetsAt w lo Bs ps) (hB : Below w.heap.size w w') : SetsAt w' lo Bs ps :=
  ⟨h.len, fun i x p hx hp => (h.sets i x p hx hp).below hB, h.low, h.apart⟩
theorem SetsAt.nil (w : World) (lo : Nat) : SetsAt w lo [] [] := ⟨rfl, fun i x p hx => by simp at hx, fun x hx => by simp at hx, List.Pairwise.nil⟩
theorem SetsAt.lt {w : World} {lo : Nat} {Bs : List (Nat × Option Nat)} {ps : List (List Nat)} (h : SetsAt w lo Bs ps) : ∀ x ∈ Bs, ∀ k, Own2 x k → k < w.heap.size := fun x hx k hk => by
  obtain ⟨i, hi⟩ := List.mem_iff_getElem?.1 hx
  obtain ⟨p, hp⟩ : ∃ p, ps[i]? = some p := ⟨_, List.getElem?_eq_getElem (by rw [← h.len]; exact (List.getElem?_eq_some_iff.1 hi).1)⟩
  exact (h.sets i x p hi hp).lt k hk
theorem SetsAt.add {w w' : World} {lo : Nat} {Bs : List (Nat × Option Nat)} {ps : List (List Nat)} (h : SetsAt w lo Bs ps) (hB : Below w.heap.size w w') {b : Nat} {mo : Option Nat} {p : List Nat} (hs : SetAt w' b mo (ofN p)) (hb : w.heap.size ≤ b) (hm : ∀ m, mo = some m → w.heap.size ≤ m) (hlo : lo ≤ w.heap.size) : SetsAt w' lo (Bs ++ [(b, mo)]) (ps ++ [p]) := by
  have hnew : ∀ k, Own2 (b, mo) k → w.heap.size ≤ k := by
    rintro k (rfl | e)
    · exact hb
    · exact hm k e
  refine ⟨by simp [h.len], fun i x q hx hq => ?_, fun x hx k hk => ?_, ?_⟩
  · by_cases hi : i < Bs.length
    · rw [List.getElem?_append_left hi] at hx
      rw [List.getElem?_append_left (by rw [← h.len]; exact hi)] at hq
      exact (h.sets i x q hx hq).below hB
    · rw [List.getElem?_append_right (by omega)] at hx
      rw [List.getElem?_append_right (by rw [← h.len]; omega), ← h.len] at hq
      have : i - Bs.length = 0 := by
        have := (List.getElem?_eq_some_iff.1 hx).1
        simp at this
        omega
      rw [this] at hx hq
      simp at hx hq
      subst hx hq
      exact hs
  · rcases List.mem_append.1 hx with hx | hx
    · exact h.low x hx k hk
    · rw [List.mem_singleton.1 hx] at hk
      have := hnew k hk
      omega
  · refine List.pairwise_append.2 ⟨h.apart, List.pairwise_singleton _ _, fun x hx y hy k hk j hj => ?_⟩
    rw [List.mem_singleton.1 hy] at hj
    have h1 := h.lt x hx k hk
    have h2 := hnew j hj
    omega
theorem make_ptrs (n : Nat) (hn : n ≤ 1000000) (w : World) : (Instr.makeSlice 64 (.int .i64 (n : Int)) (.int .i64 (n : Int))).run Try.prog w = .ok (.slice (some ⟨w.heap.size, 0, none⟩) n n) (w.alloc (.cells (madeCells #[.pointer none] n) 29)) :=
  run_make_row' (P := Try.prog) 64 29 (.pointer none) 8 (by kernel_rfl) (by kernel_rfl) rfl .i64 .i64 n (by omega) (by omega) w
end Go.Proofs.Ytiokbhbggpibpaa
/-
  What shard's read does of chunks that are a set's.
-/
namespace Go.Proofs.Ytiokbhbggpibpaa
open Go Go.RowKit

theorem ptrs_app (Bs : List (Nat × Option Nat)) (x : Nat × Option Nat) : ptrs (Bs ++ [x]) = ptrs Bs ++ [.pointer (some ⟨x.1, 0, none⟩)] := by unfold ptrs; rw [List.map_append]; rfl
theorem run_notH (o : Bool) (w : World) : (Op.unary UnOp.not (.bool o)).run Try.prog w = .ok (.bool (!o)) w := rfl
theorem wrapH1 (d : Nat) (h : d ≤ 1000000) : IntKind.i64.wrap ((d : Int) - 1) = (d : Int) - 1 := by rw [IntKind.wrap_i64]; omega
theorem below_rd {w0 w : World} {q k : Nat} {v : Value} (h : Below w0.heap.size w0 w) (hq : w0.heap.size ≤ q) : Below w0.heap.size w0 (w.setCell ⟨q, k, none⟩ v) := Only.fresh h ((Only.refl q w).set k v) hq
theorem SetsAt.only {w w' : World} {lo q : Nat} {Bs : List (Nat × Option Nat)} {ps : List (List Nat)} (h : SetsAt w lo Bs ps) (o : Only q w w') (hq : q < lo) : SetsAt w' lo Bs ps := by
  refine ⟨h.len, fun i x p hx hp => ?_, h.low, h.apart⟩
  have hs := h.sets i x p hx hp
  have hl := h.low x (List.mem_of_getElem? hx)
  refine ⟨o.holds hs.ptr fun e => ?_, hs.map.block fun m hm => o.block m (hs.map.lt m hm) fun e => ?_⟩
  · have := hl x.1 (.inl rfl); omega
  · have := hl m (.inr hm); omega
set_option maxRecDepth 8000 in
set_option maxHeartbeats 8000000 in
theorem hread_ok {w : World} {v : Value} {ps : List (List Nat)} (hv : ChunksAt w v (chk ps)) (hg : Good ps) (hl : ps.length ≤ 1000000) :
    Calls Try.prog 37 #[v] w fun e w' => ∃ q Bs, e = .returned (.tuple #[.slice (some ⟨q, 0, none⟩) ps.length ps.length, .int .i64 0]) ∧ Holds w' q 29 (ptrs Bs).toArray ∧ SetsAt w' w.heap.size Bs ps ∧ Below w.heap.size w w' := by
  have hnot := run_notH
  obtain ⟨p0, c0, rfl⟩ := hv.shape
  have hcl := chk_len ps
  rw [hcl] at hv ⊢
  obtain ⟨n, hn⟩ : ∃ n, ps.length = n := ⟨_, rfl⟩
  have HN : Hid (ps.length = n) := hn
  rw [hn] at hv hl ⊢
  clear hn hcl
  have hni : (n : Int) ≤ 1000000 := by omega
  have hmk := make_ptrs n hl
  have hwn := wrapH1 n hl
  obtain ⟨q, hq⟩ : ∃ q, w.heap.size = q := ⟨_, rfl⟩
  obtain ⟨W0, hW0⟩ : ∃ W0, w.alloc (.cells (madeCells #[.pointer none] n) 29) = W0 := ⟨_, rfl⟩
  have hH : Holds W0 q 29 (madeCells #[.pointer none] n) := by rw [← hW0, ← hq]; exact Holds.new _ _ _
  have hB : Below w.heap.size w W0 := by rw [← hW0]; exact below_new1 _ _
  have hz0 : q < W0.heap.size := hH.lt
  have hsz := size_madeCells #[.pointer none] n
  generalize madeCells #[.pointer none] n = cur0 at hH hsz hW0 hmk
  have F0 : Hid (Holds W0 q 29 cur0 ∧ cur0.size = n ∧ Below w.heap.size w W0) := ⟨hH, hsz, hB⟩
  have HQ : Hid (w.heap.size = q) := hq
  have hqw : w.heap.size ≤ q := by omega
  clear hH hB hsz
  have hb0 : (-1 : Int) = bef ps 0 := rfl
  go_enter Try.func37, Try.ntmps37
  go_wp2_with fail
  go_loopw [5, 19] (fun x y wr => ∃ (k : Nat) (cur : Array Value) (Bs : List (Nat × Option Nat)), y = .int .i64 (k : Nat) ∧ k ≤ n ∧ x = .int .i64 (bef ps k) ∧ Holds wr q 29 cur ∧ cur.size = n ∧ Hid (cur.toList.take k = ptrs Bs) ∧ SetsAt wr (q + 1) Bs (ps.take k) ∧ Below w.heap.size w wr) (fun _ y _ => n - (intOf y).toNat)
  case atStart => exact ⟨0, cur0, [], rfl, Nat.zero_le _, rfl, F0.out.1, F0.out.2.1, (by show _ = _; rfl), SetsAt.nil _ _, F0.out.2.2⟩
  case round =>
    clear F0
    obtain ⟨k, cur, Bs, rfl, hk, rfl, hH, hsz, HC, hS, hB⟩ := hrel
    obtain ⟨hbf1, hbf2⟩ := bef_bound hg k (by rw [HN.out]; exact hk)
    by_cases hkn : k < n
    · have hki : (k : Int) < n := by omega
      obtain ⟨p, hp⟩ : ∃ p, ps[k]? = some p := ⟨_, List.getElem?_eq_getElem (by rw [HN.out]; exact hkn)⟩
      obtain ⟨hpn, hp1, hp64⟩ := hg.at hp
      have hbl := bef_lt hg hp
      have HB2 : Hid (bef ps (k + 1) = ((p.getLastD 0 : Nat) : Int)) := by show ((((ps[k]?.getD []).getLastD 0 : Nat)) : Int) = _; rw [hp]; rfl
      have hx := chk_get ps k p hp
      have hlst : k + 1 < n → p.length = 64 := fun h => hg.parted.full hp (by rw [HN.out]; exact h)
      rw [HN.out] at hx
      obtain ⟨b, o, rfl, hnn, c0', c1⟩ := (hv.below hB).at hx
      clear hnn
      dsimp only at c0' c1
      generalize bef ps k = bk at hbl hbf1 hbf2 ⊢
      obtain ⟨u, hu⟩ : ∃ u, (if k + 1 = n then 2147483647 else ((p.getLastD 0 : Nat) : Int)) = u := ⟨_, rfl⟩
      have HU : Hid ((if k + 1 = n then 2147483647 else ((p.getLastD 0 : Nat) : Int)) = u) := hu
      rw [hu] at c0'
      have hrd : ∀ W, Calls Try.prog 28 #[.string (dataOf p)] W fun e w' => ∃ b, e = .returned (.tuple #[.pointer (some ⟨b, 0, none⟩), .int .i64 0]) ∧ ∃ mo, SetAt w' b mo (ofN p) ∧ W.heap.size ≤ b ∧ (∀ m, mo = some m → W.heap.size ≤ m) ∧ Below W.heap.size W w' := fun W => read_back (ofN_bound hpn.bound) W
      generalize dataOf p = dt at c1 hrd
      clear hu hx
      obtain ⟨W1, hW1⟩ : ∃ W1, wr.alloc (.cells #[.int .i64 u, .string dt] 44) = W1 := ⟨_, rfl⟩
      obtain ⟨z, hz⟩ : ∃ z, wr.heap.size = z := ⟨_, rfl⟩
      have hZ : Holds W1 z 44 #[.int .i64 u, .string dt] := by rw [← hW1, ← hz]; exact Holds.new _ _ _
      have hB1 : Below wr.heap.size wr W1 := by rw [← hW1]; exact below_new1 _ _
      have e0 : W1.cell? ⟨z, 0, none⟩ = some (.int .i64 u) := hZ.cell 0
      have e1 : W1.cell? ⟨z, 1, none⟩ = some (.string dt) := hZ.cell 1
      have hq1 : q + 1 ≤ W1.heap.size := by have := hH.lt; have := hB1.size; omega
      go_wp2_with fail
      refine (hrd W1).mono ?_
      rintro e w2 ⟨b2, rfl, mo2, hs2, hb2, hm2, hB2⟩
      clear hrd
      go_wp2_with fail
      refine (least_any hs2.view 0 0 rfl (by omega)).mono ?_
      rintro e w3 ⟨nl, bl, rfl, hle, hB3⟩
      have hle' := least_head hpn hle
      have hnl : bk < (nl : Int) := by rw [hle']; exact hbl
      have hnl2 : ¬ (nl : Int) ≤ bk := by omega
      have hnl3 : (nl : Int) < 2147483648 := by have := hpn.bound _ (head_mem hp1); omega
      clear hle hle' hbl
      go_wp2_with fail
      refine (great_any (hs2.below hB3).view).mono ?_
      rintro e w4 ⟨ng, bg, rfl, hgr, hB4⟩
      have hgr' := great_getLast hpn hgr
      have HG : Hid (ng = p.getLastD 0) := hgr'
      clear hgr hgr'
      have hs4 := (hs2.below hB3).below hB4
      have hZ4 := below_holds hB4 (below_holds hB3 (below_holds hB2 hZ))
      have hcar : card (ofN p) = p.length := by rw [card_len, hpn.mem]
      have hln := fun W (hW : Below w4.heap.size w4 W) => len_any (hs4.below hW).view
      rw [hcar] at hln
      clear hcar
      obtain ⟨pl, hpl⟩ : ∃ pl, p.length = pl := ⟨_, rfl⟩
      have HPL : Hid (p.length = pl) := hpl
      rw [hpl] at hln hp1 hp64 hlst
      clear hpl
      obtain ⟨last, hlast⟩ : ∃ last, decide ((k : Int) = (n : Int) - 1) = last := ⟨_, rfl⟩
      have hlast2 : ((k : Int) == (n : Int) - 1) = last := by rw [← hlast, Bool.eq_iff_iff]; simp
      have hft : ∀ W, Calls Try.prog 60 #[.int .i64 (pl : Nat), .int .i64 (ng : Nat), .int .i64 u, .bool last] W fun e w' => e = .returned (.bool true) ∧ w' = W := fun W => by
        have hU := HU.out
        by_cases hkl : k + 1 = n
        · rw [if_pos hkl] at hU
          have : last = true := by rw [← hlast]; exact decide_eq_true (by omega)
          rw [this]
          exact fits_last _ _ _ (by omega) (by omega) hU.symm W
        · rw [if_neg hkl] at hU
          have : last = false := by rw [← hlast]; exact decide_eq_false (by omega)
          rw [this, ← hU, ← HG.out, hlst (by omega)]
          exact fits_full _ W
      clear hlast hlst
      have hng : (ng : Int) < 2147483648 := by rw [HG.out]; have := hpn.bound _ (last_mem (by rw [HPL.out]; exact hp1)); omega
      go_wp2_with fail
      refine wp_region_plan (fun W => Below w4.heap.size w4 W) [.take 0, .take 1, .take 2, .take 3, .take 4, .take 6, .take 7, .take 8, .take 9, .take 10, .take 11, .take 12, .take 13, .one 5, .one 14, .take 15, .take 16] mixedP (by kernel_rfl) rfl (by kernel_rfl) (fun _ _ _ d _ h => by cases d <;> exact h) (below_drewH _) ?_
      refine plan_valG (some 42) rfl rfl rfl (.int .i64 (nl : Nat)) (fun _ => by go_simp) ?_
      go_frame
      refine plan_valG (some 43) rfl rfl rfl (.int .i64 bk) (fun _ => by go_simp) ?_
      go_frame
      refine plan_valG (some 44) rfl rfl rfl (.bool false) (fun _ => by go_simp) ?_
      go_frame
      refine plan_valG (some 45) rfl rfl rfl (.bool false) (fun _ => by go_simp) ?_
      go_frame
      refine plan_valG (some 46) rfl rfl rfl (.pointer (some ⟨b2, 0, none⟩)) (fun _ => by go_simp) ?_
      go_frame
      refine plan_valG (some 48) rfl rfl rfl (.int .i64 (ng : Nat)) (fun _ => by go_simp) ?_
      go_frame
      refine plan_valG (some 49) rfl rfl rfl (.pointer (some ⟨z, 0, none⟩)) (fun _ => by go_simp) ?_
      go_frame
      refine plan_ldG (some 50) rfl rfl rfl _ _ rfl rfl (v := .int .i64 u) (fun W hW => ldIntH ((below_holds hW hZ4).cell 0)) ?_
      go_frame
      refine plan_valG (some 51) rfl rfl rfl (.int .i64 (k : Nat)) (fun _ => by go_simp) ?_
      go_frame
      refine plan_valG (some 52) rfl rfl rfl (.slice (some ⟨b, o, none⟩) n c0) (fun _ => by go_simp) ?_
      go_frame
      refine plan_valG (some 53) rfl rfl rfl (.int .i64 (n : Nat)) (fun _ => by go_simp) ?_
      go_frame
      refine plan_valG (some 54) rfl rfl rfl (.int .i64 ((n : Int) - 1)) (fun _ => by go_simp) ?_
      go_frame
      refine plan_valG (some 55) rfl rfl rfl (.bool last) (fun _ => by go_simp) ?_
      go_frame
      refine plan_callG (some 47) rfl rfl rfl (f := 24) (vs := #[.pointer (some ⟨b2, 0, none⟩)]) (by go_simp) ((hln _ (below_drewH _)).mono ?_)
      rintro e w5 ⟨rfl, hB5⟩
      have hB5' := below_new (below_drewH w4) hB5
      refine ⟨_, rfl, hB5', ?_⟩
      go_frame
      refine plan_callG (some 56) rfl rfl rfl (f := 60) (vs := #[.int .i64 (pl : Nat), .int .i64 (ng : Nat), .int .i64 u, .bool last]) (by go_simp) ((hft w5).mono ?_)
      rintro e w5' ⟨rfl, hw5⟩
      have hw5' := hw5.symm
      clear hw5
      subst hw5'
      refine ⟨_, rfl, hB5', ?_⟩
      go_frame
      refine plan_valG (some 57) rfl rfl rfl (.bool false) (fun _ => by go_simp) ?_
      go_frame
      refine plan_valG (some 58) rfl rfl rfl (.bool false) (fun _ => by go_simp) ?_
      go_frame
      refine then_normalH ?_
      go_at_K
      have hH5 := below_holds hB5' (below_holds hB4 (below_holds hB3 (below_holds hB2 (below_holds hB1 hH))))
      have hcq : ∃ y, w5.cell? ⟨q, k, none⟩ = some y := by rw [hH5.cell k, Array.getElem?_eq_getElem (by omega)]; exact ⟨_, rfl⟩
      obtain ⟨y0, hy0⟩ := hcq
      have hfq := hH5.frozen k
      have hB15 : Below W1.heap.size W1 w5 := below_new (below_new (below_new hB2 hB3) hB4) hB5'
      have F5 : Hid (Holds (w5.setCell ⟨q, k, none⟩ (.pointer (some ⟨b2, 0, none⟩))) q 29 (cur.setIfInBounds k (.pointer (some ⟨b2, 0, none⟩))) ∧ (cur.setIfInBounds k (.pointer (some ⟨b2, 0, none⟩))).size = n ∧ (cur.setIfInBounds k (.pointer (some ⟨b2, 0, none⟩))).toList.take (k + 1) = ptrs (Bs ++ [(b2, mo2)]) ∧ SetsAt (w5.setCell ⟨q, k, none⟩ (.pointer (some ⟨b2, 0, none⟩))) (q + 1) (Bs ++ [(b2, mo2)]) (ps.take (k + 1)) ∧ Below w.heap.size w (w5.setCell ⟨q, k, none⟩ (.pointer (some ⟨b2, 0, none⟩)))) := by
        refine ⟨hH5.set k _, by rw [Array.size_setIfInBounds]; exact hsz, ?_, ?_, ?_⟩
        · rw [ptrs_app]
          exact take_set cur _ HC.out (by omega)
        · rw [List.take_add_one, hp]
          have h1 := (hS.below hB1).add hB15 (hs4.below hB5') hb2 hm2 hq1
          exact h1.only ((Only.refl q w5).set k _) (by omega)
        · exact Only.fresh (below_new (below_new hB hB1) hB15) ((Only.refl q w5).set k _) hqw
      clear hH5 hs4 hs2 hZ4 hZ hS hH hB HC hB15 hB5' hB5 hB4 hB3 hB2 hB1 hsz
      go_wp2_with fail
      exact ⟨⟨k + 1, _, _, by go_num, by omega, by rw [HB2.out, HG.out], F5.out.1, F5.out.2.1, F5.out.2.2.1, F5.out.2.2.2.1, F5.out.2.2.2.2⟩, by simp [intOf]; omega⟩
    · have hki : ¬ (k : Int) < n := by omega
      obtain rfl : k = n := by omega
      have HR : Hid (Holds wr q 29 (ptrs Bs).toArray ∧ SetsAt wr w.heap.size Bs ps) := by
        have h1 := HC.out
        rw [List.take_of_length_le (by rw [Array.length_toList]; omega)] at h1
        have h2 := hS
        rw [← HN.out, List.take_length] at h2
        refine ⟨?_, h2.len, h2.sets, fun x hx k hk => by have := h2.low x hx k hk; omega, h2.apart⟩
        rw [← h1]
        exact hH
      have HB : Hid (Below q w wr) := by show Below q w wr; rw [← HQ.out]; exact hB
      have HR2 : Hid (Holds wr q 29 (ptrs Bs).toArray ∧ SetsAt wr q Bs ps) := by rw [HQ.out] at HR; exact HR
      clear hH HC hS hB HR
      go_wp2_with fail
      go_ret2
      exact ⟨_, rfl, _, HR2.out.1, HR2.out.2, HB.out⟩
end Go.Proofs.Ytiokbhbggpibpaa
