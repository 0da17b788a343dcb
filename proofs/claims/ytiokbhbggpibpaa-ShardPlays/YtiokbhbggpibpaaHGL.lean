/-
  Texts of this claim, put together.
-/
import Derived.Test.YtiokbhbggpibpaaHJoinW
import Derived.Test.YtiokbhbggpibpaaHLaw
import Derived.Test.YtiokbhbggpibpaaBBackP
import Derived.Test.YtiokbhbggpibpaaHGH
import Derived.Test.YtiokbhbggpibpaaBRefBytesW
import Derived.Test.YtiokbhbggpibpaaHAppW
/-
  Towards ShardBack: which rows of chunks are no set's; a chunk's upper set anew.
-/
namespace Go.Proofs.Ytiokbhbggpibpaa
open Go Go.RowKit

theorem chk_at {ps : List (List Nat)} {i : Nat} {u : Int} {x : ByteArray} (h : (chk ps)[i]? = some (u, x)) : ∃ p, ps[i]? = some p ∧ x = dataOf p := by
  have hi := (List.getElem?_eq_some_iff.1 h).1
  rw [chk_len] at hi
  refine ⟨_, List.getElem?_eq_getElem hi, ?_⟩
  have h2 := chk_get ps i _ (List.getElem?_eq_getElem hi)
  rw [h] at h2
  injection h2 with h2
  exact (Prod.mk.inj h2).2
theorem chk_data {ps qs : List (List Nat)} (hp : Good ps) (hq : Good qs) {i : Nat} {u v : Int} {x : ByteArray} (h1 : (chk ps)[i]? = some (u, x)) (h2 : (chk qs)[i]? = some (v, x)) : ps[i]? = qs[i]? := by
  obtain ⟨p, a1, a2⟩ := chk_at h1
  obtain ⟨q, b1, b2⟩ := chk_at h2
  rw [a1, b1, dataOf_inj (hp.at a1).1 (hq.at b1).1 (a2.symm.trans b2)]
theorem chk_upper {ps : List (List Nat)} (hg : Good ps) {i : Nat} {u : Int} {x : ByteArray} (h : (chk ps)[i]? = some (u, x)) : 0 ≤ u ∧ u ≤ 2147483647 := by
  obtain ⟨p, hp, _⟩ := chk_at h
  have h2 := chk_get ps i p hp
  rw [h] at h2
  injection h2 with h2
  have h3 := (Prod.mk.inj h2).1
  have h4 := last_lt (hg.at hp).1
  split at h3 <;> omega
theorem back_bad1 {ps : List (List Nat)} (hg : Good ps) {k : Nat} {u u' : Int} {s : ByteArray} (hk : (chk ps)[k]? = some (u, s)) (hu : u' ≠ u) : ∀ qs, Good qs → (chk ps).set k (u', s) ≠ chk qs := by
  intro qs hq e
  have hkl := (List.getElem?_eq_some_iff.1 hk).1
  have hpq : ps = qs := by
    refine List.ext_getElem? fun i => ?_
    by_cases hi : i < ps.length
    · obtain ⟨⟨v, x⟩, hx⟩ : ∃ y, (chk ps)[i]? = some y := ⟨_, List.getElem?_eq_getElem (by rw [chk_len]; exact hi)⟩
      by_cases hik : k = i
      · subst hik
        have : (chk qs)[k]? = some (u', s) := by rw [← e, List.getElem?_set_self hkl]
        exact chk_data hg hq hk this
      · have : (chk qs)[i]? = some (v, x) := by rw [← e, List.getElem?_set_ne hik]; exact hx
        exact chk_data hg hq hx this
    · have hl : ps.length = qs.length := by
        have := congrArg List.length e
        rw [List.length_set, chk_len, chk_len] at this
        exact this
      rw [List.getElem?_eq_none (by omega), List.getElem?_eq_none (by omega)]
  subst hpq
  have h1 : ((chk ps).set k (u', s))[k]? = some (u', s) := List.getElem?_set_self hkl
  rw [e, hk] at h1
  injection h1 with h1
  exact hu (Prod.mk.inj h1).1.symm
theorem Good.twice {qs : List (List Nat)} (hq : Good qs) {i j : Nat} (hij : i < j) {p : List Nat} (h1 : qs[i]? = some p) (h2 : qs[j]? = some p) : False := by
  have hr := (List.pairwise_flatten.1 hq.nums.rises).2
  obtain ⟨hi, e1⟩ := List.getElem?_eq_some_iff.1 h1
  obtain ⟨hj, e2⟩ := List.getElem?_eq_some_iff.1 h2
  have h := List.pairwise_iff_getElem.1 hr i j hi hj hij
  rw [e1, e2] at h
  obtain ⟨_, ha, _⟩ := hq.at h1
  have hm := head_mem ha
  exact Nat.lt_irrefl _ (h _ hm _ hm)
theorem back_bad2 {ps : List (List Nat)} {k : Nat} {y : Ck} (hk : (chk ps)[k]? = some y) : ∀ qs, Good qs → chk ps ++ [y] ≠ chk qs := by
  intro qs hq e
  have hkl := (List.getElem?_eq_some_iff.1 hk).1
  have h1 : (chk qs)[k]? = some y := by rw [← e, List.getElem?_append_left hkl]; exact hk
  have h2 : (chk qs)[(chk ps).length]? = some y := by rw [← e]; simp
  obtain ⟨u, s⟩ := y
  obtain ⟨p, a1, a2⟩ := chk_at h1
  obtain ⟨q, b1, b2⟩ := chk_at h2
  have := dataOf_inj (hq.at a1).1 (hq.at b1).1 (a2.symm.trans b2)
  subst this
  exact hq.twice hkl a1 b1
theorem dataOf_size (p : List Nat) : (dataOf p).size ≤ 2147483648 := by
  have := bytesM_len (ofN p)
  show (bytesM (ofN p)).toArray.size ≤ _
  rw [List.size_toArray]
  omega
theorem chk_size {ps : List (List Nat)} : ∀ c ∈ chk ps, c.2.size ≤ 2147483648 := fun c hc => by
  obtain ⟨i, hi⟩ := List.mem_iff_getElem?.1 hc
  obtain ⟨u, x⟩ := c
  obtain ⟨p, _, e⟩ := chk_at hi
  show x.size ≤ _
  rw [e]
  exact dataOf_size p
theorem ccells_setU : ∀ (L : List Ck) (i : Nat) (u u' : Int) (t : ByteArray), L[i]? = some (u, t) → ccells (L.set i (u', t)) = (ccells L).set (i * 2) (.int .i64 u')
  | a :: l, 0, u, u', t, h => by
    have e : a = (u, t) := by simpa using h
    subst e
    rfl
  | a :: l, i + 1, u, u', t, h => by
    have ih := ccells_setU l i u u' t (by simpa using h)
    have e : ∀ l', ccells (a :: l') = [.int .i64 a.1, .string a.2] ++ ccells l' := fun _ => rfl
    rw [List.set_cons_succ, e, e, ih]
    rw [show (i + 1) * 2 = (i * 2) + 2 by omega]
    rfl
theorem OwnChunks.putU {w : World} {base g n cap : Nat} {L : List Ck} (h : OwnChunks w base (.slice (some ⟨g, 0, none⟩) n cap) L) {i : Nat} {u : Int} {t : ByteArray} (hi : L[i]? = some (u, t)) (u' : Int) :
    OwnChunks (w.setCell ⟨g, i * 2, none⟩ (.int .i64 u')) base (.slice (some ⟨g, 0, none⟩) n cap) (L.set i (u', t)) := by
  obtain ⟨g', cap', cur, e, h1, h2, h3, h4, h5, h6⟩ := h.row (List.getElem?_eq_some_iff.1 hi).1
  injection e with e1 e2 e3
  injection e1 with e1
  injection e1 with e1
  subst e1 e2 e3
  have hl : (L.set i (u', t)).length = L.length := List.length_set
  unfold OwnChunks
  rw [hl]
  refine ⟨by rw [ccells_len, hl], .inr ⟨g, cap, _, rfl, h1, h2.set (i * 2) (.int .i64 u'), h3, h4, by rw [Array.size_setIfInBounds]; exact h5, ?_⟩⟩
  rw [ccells_setU L i u u' t hi, ← h6, Array.toList_setIfInBounds, List.take_set]
theorem OwnChunks.putD {w : World} {base g n cap : Nat} {L : List Ck} (h : OwnChunks w base (.slice (some ⟨g, 0, none⟩) n cap) L) {i : Nat} {u : Int} {t : ByteArray} (hi : L[i]? = some (u, t)) (s : ByteArray) :
    OwnChunks (w.setCell ⟨g, i * 2 + 1, none⟩ (.string s)) base (.slice (some ⟨g, 0, none⟩) n cap) (L.set i (u, s)) := by
  obtain ⟨g', cap', cur, e, h1, h2, h3, h4, h5, h6⟩ := h.row (List.getElem?_eq_some_iff.1 hi).1
  injection e with e1 e2 e3
  injection e1 with e1
  injection e1 with e1
  subst e1 e2 e3
  exact OwnChunks.setD h1 h2 h3 h4 h5 h6 hi s
/-- A chunk put back where another one had stood meanwhile. -/
theorem OwnChunks.putBack {w : World} {base g n cap : Nat} {L : List Ck} {i : Nat} {u u' : Int} {s : ByteArray} (hi : L[i]? = some (u, s)) (h : OwnChunks w base (.slice (some ⟨g, 0, none⟩) n cap) (L.set i (u', s))) :
    OwnChunks ((w.setCell ⟨g, i * 2, none⟩ (.int .i64 u)).setCell ⟨g, i * 2 + 1, none⟩ (.string s)) base (.slice (some ⟨g, 0, none⟩) n cap) L := by
  have hil := (List.getElem?_eq_some_iff.1 hi).1
  have e1 : (L.set i (u', s))[i]? = some (u', s) := List.getElem?_set_self hil
  have h1 := h.putU e1 u
  rw [List.set_set] at h1
  have e2 : L.set i (u, s) = L := by
    refine List.ext_getElem? fun j => ?_
    by_cases hj : i = j
    · subst hj; rw [List.getElem?_set_self hil, hi]
    · rw [List.getElem?_set_ne hj]
  rw [e2] at h1
  have h2 := h1.putD hi s
  rw [e2] at h2
  exact h2
end Go.Proofs.Ytiokbhbggpibpaa
/-
  The document's Split.
-/
namespace Go.Proofs.Ytiokbhbggpibpaa
open Go Go.RowKit Go.Maps

theorem one_ck' (w : World) (u : Int) (s : ByteArray) : ChunksAt (w.alloc (.cells #[.int .i64 u, .string s] 44)) (.slice (some ⟨w.heap.size, 0, none⟩) 1 1) [(u, s)] := by
  have h := Holds.new w 44 #[.int .i64 u, .string s]
  refine .inr ⟨_, 0, 1, rfl, Nat.le_refl _, fun i x hx => ?_⟩
  cases i with
  | zero =>
    have : (u, s) = x := by simpa using hx
    subst this
    exact ⟨h.cell 0, h.cell 1⟩
  | succ i => simp at hx
/-- The chunks that stand after so many rounds. -/
noncomputable def docC (m : List Nat) (cn i : Nat) : List Ck := if i = cn then (if cn = 0 then [] else rawsC m (cn - 1) ++ [(2147483647, dataOf (partAt m (cn - 1)))]) else rawsC m i
theorem docC_zero (m : List Nat) (cn : Nat) : docC m cn 0 = [] := by
  unfold docC
  by_cases h : 0 = cn
  · rw [if_pos h, if_pos h.symm]
  · rw [if_neg h]; rfl
theorem docC_len (m : List Nat) (cn i : Nat) : (docC m cn i).length = i := by
  unfold docC
  by_cases h : i = cn
  · rw [if_pos h]
    by_cases h0 : cn = 0
    · rw [if_pos h0]; simp; omega
    · rw [if_neg h0, List.length_append, rawsC_len]; simp; omega
  · rw [if_neg h, rawsC_len]
theorem docC_more {m : List Nat} {cn i : Nat} (h : i + 1 < cn) : docC m cn (i + 1) = docC m cn i ++ [rawC m i] := by
  unfold docC
  rw [if_neg (by omega), if_neg (by omega), rawsC_succ]
theorem docC_last {m : List Nat} {cn i : Nat} (h : i + 1 = cn) : docC m cn (i + 1) = docC m cn i ++ [(2147483647, dataOf (partAt m i))] := by
  unfold docC
  rw [if_pos h, if_neg (by omega), if_neg (by omega)]
  rw [show cn - 1 = i by omega]
theorem docC_all {m : List Nat} (h : cnt64 m.length = 0 → m = []) : SplitOf m (docC m (cnt64 m.length) (cnt64 m.length)) := by
  unfold docC
  rw [if_pos rfl]
  by_cases h0 : cnt64 m.length = 0
  · rw [if_pos h0, h h0]
    exact ⟨[], trivial, rfl, rfl⟩
  · rw [if_neg h0]
    exact last_upper m (by omega)
theorem part_last {m : List Nat} {i lo y : Nat} (hlo : i * 64 = lo) (h : m[lo + 63]? = some y) : (partAt m i).getLastD 0 = y := by
  have hl := (List.getElem?_eq_some_iff.1 h).1
  have hp : (partAt m i).length = 64 := by
    unfold partAt
    rw [List.length_take, List.length_drop]
    omega
  rw [List.getLastD_eq_getLast?, List.getLast?_eq_getElem?, hp]
  unfold partAt
  rw [List.getElem?_take, if_pos (by omega), List.getElem?_drop, show 64 * i + (64 - 1) = lo + 63 by omega, h]
  rfl

set_option maxRecDepth 8000 in
set_option maxHeartbeats 8000000 in
theorem qsplit_any {w : World} {p : Option Addr} {n c : Nat} {m : List Nat} (hv : IntsAt w (.slice p n c) (m.map fun x : Nat => (x : Int))) (hn : m.length = n) (hnc : n ≤ c) (hnum : Nums m) (hl : n ≤ 10000) :
    Calls Try.prog 14 #[.slice p n c] w fun e w' => ∃ v L, e = .returned v ∧ SplitOf m L ∧ OwnChunks w' w.heap.size v L ∧ Below w.heap.size w w' := by
  have hbc := buildCk
  obtain ⟨cn, hcn⟩ : ∃ cn, cnt64 m.length = cn := ⟨_, rfl⟩
  have hcn' : cn = (m.length + 63) / 64 := hcn.symm
  have HCN : Hid (cnt64 m.length = cn) := hcn
  have HN : Hid (m.length = n) := hn
  have h64a : n ≤ 64 * cn := by omega
  have h64b : 64 * cn < n + 64 := by omega
  clear hcn' hcn hn
  have hni : (n : Int) ≤ 10000 := by omega
  have h0 := OwnChunks.nil w w.heap.size
  rw [← docC_zero m cn] at h0
  go_enter Try.func14, Try.ntmps14
  go_wp2_with fail
  go_loopw [3, 4] (fun x y wr => ∃ i lo : Nat, lo = i * 64 ∧ y = .int .i64 (lo : Nat) ∧ i ≤ cn ∧ OwnChunks wr w.heap.size x (docC m cn i) ∧ Below w.heap.size w wr) (fun _ y _ => 64 * cn - (intOf y).toNat)
  case atStart => exact ⟨0, 0, rfl, rfl, Nat.zero_le _, h0, Below.refl _ _⟩
  case round =>
    clear h0
    obtain ⟨i, lo, hlo, rfl, hi, ho, hB⟩ := hrel
    by_cases hin : lo < n
    · have hii : (lo : Int) < n := by omega
      have hicn : i < cn := by omega
      have hI := hv.below hB
      have hpn : Nums (partAt m i) := hnum.sub (by unfold partAt; exact (List.take_sublist _ _).trans (List.drop_sublist _ _))
      have hdl := docC_len m cn i
      have hsz := hB.size
      by_cases hfl : lo + 64 < n
      · have hfli : (lo : Int) + 64 < n := by omega
        have hpart : partAt m i = (m.drop lo).take (lo + 64 - lo) := by unfold partAt; rw [show 64 * i = lo by omega, show lo + 64 - lo = 64 by omega]
        obtain ⟨p', hsl, hmid⟩ := ints_mid p (n := n) (c := c) lo (lo + 64) (by omega) (by omega) hnc
        obtain ⟨hIp, _⟩ := hmid wr _ hI
        rw [← List.map_drop, ← List.map_take, ← hpart] at hIp
        have hq := fun W (hW : Below wr.heap.size wr W) => qbytes_any (hIp.below hW) hpn.rises hpn.bound (by have := congrArg List.length hpart; rw [List.length_take] at this; omega)
        obtain ⟨y, hy⟩ : ∃ y, m[lo + 63]? = some y := ⟨_, List.getElem?_eq_getElem (by rw [HN.out]; omega)⟩
        have hlast := part_last hlo.symm hy
        have hmy : (m.map fun x : Nat => (x : Int))[lo + 63]? = some (y : Int) := by rw [List.getElem?_map, hy]; rfl
        obtain ⟨gx, ox, rfl, ex⟩ := hI.get hmy
        have HM : Hid (docC m cn (i + 1) = docC m cn i ++ [((y : Int), dataOf (partAt m i))]) := by show _ = _; rw [docC_more (by omega)]; unfold rawC; rw [hlast]
        have hdt : dataOf (partAt m i) = ⟨(bytesM (ofN (partAt m i))).toArray⟩ := rfl
        rw [← hdt] at hq
        clear hdt hlast hmy hy hIp hmid hpart hpn hI
        generalize dataOf (partAt m i) = dt at hq HM
        have HLO : Hid (lo = i * 64) := hlo
        clear hlo
        obtain ⟨e64, he64⟩ : ∃ e, lo + 64 = e := ⟨_, rfl⟩
        obtain ⟨q63, hq63⟩ : ∃ e, lo + 63 = e := ⟨_, rfl⟩
        rw [show lo + 64 - lo = 64 by omega] at hq hsl
        rw [he64] at hsl
        rw [hq63] at ex
        have hs1 : (e64 : Int) - 1 = (q63 : Int) := by omega
        have hs2 : (lo : Int) + 64 = (e64 : Int) := by omega
        have hs3 : (q63 : Int) < n := by omega
        have hs4 : (e64 : Int) < n := by omega
        have HE : Hid (lo + 64 = e64) := he64
        clear he64 hq63 hfl hfli
        go_wp2_with (first
          | (go_at_call 36; refine (hq _ (Below.refl _ _)).mono ?_; rintro e w1 ⟨rfl, hB1⟩; have ho1 := ho.below0 hB1; have hBw1 := below_new hB hB1)
          | (at_builtin; refine wpList_append_ck rfl _ _ rfl rfl rfl (ho1.below0 (below_new1 w1 _)) (one_ck' w1 _ _) (by rw [hdl]; simp; omega) (by have := hB1.size; simp; omega) ?_; intro v2 w2 hown2 hg2; have F2 : Hid (OwnChunks w2 w.heap.size v2 (docC m cn (i + 1)) ∧ Below w.heap.size w w2) := (by rw [HM.out]; exact ⟨hown2, below_grownH (hBw1.trans ((below_new1 w1 _).mono hBw1.size)) hg2 ho1.new⟩); clear hown2 hg2 ho1 ho hB1 hBw1 hB hq))
        exact ⟨⟨i + 1, e64, by have := HLO.out; have := HE.out; omega, by go_num, by omega, F2.out.1, F2.out.2⟩, by have := HLO.out; have := HE.out; simp [intOf]; omega⟩
      · have hfli : ¬ (lo : Int) + 64 < n := by omega
        have hpart : partAt m i = (m.drop lo).take (n - lo) := by
          unfold partAt
          rw [show 64 * i = lo by omega, List.take_of_length_le (by rw [List.length_drop, HN.out]; omega), List.take_of_length_le (by rw [List.length_drop, HN.out]; omega)]
        obtain ⟨p', hsl, hmid⟩ := ints_mid p (n := n) (c := c) lo n hin (Nat.le_refl _) hnc
        obtain ⟨hIp, _⟩ := hmid wr _ hI
        rw [← List.map_drop, ← List.map_take, ← hpart] at hIp
        have hq := fun W (hW : Below wr.heap.size wr W) => qbytes_any (hIp.below hW) hpn.rises hpn.bound (by have := congrArg List.length hpart; rw [List.length_take] at this; omega)
        have HM : Hid (docC m cn (i + 1) = docC m cn i ++ [(2147483647, dataOf (partAt m i))]) := docC_last (by omega)
        have hdt : dataOf (partAt m i) = ⟨(bytesM (ofN (partAt m i))).toArray⟩ := rfl
        rw [← hdt] at hq
        clear hdt hIp hmid hpart hpn hI
        generalize dataOf (partAt m i) = dt at hq HM
        have HLO : Hid (lo = i * 64) := hlo
        clear hlo
        obtain ⟨e64, he64⟩ : ∃ e, lo + 64 = e := ⟨_, rfl⟩
        have hs2 : (lo : Int) + 64 = (e64 : Int) := by omega
        have hs4 : ¬ (e64 : Int) < n := by omega
        have HE : Hid (lo + 64 = e64) := he64
        clear he64 hfl hfli
        obtain ⟨pl, hpl⟩ : ∃ pl, n - lo = pl := ⟨_, rfl⟩
        rw [hpl] at hsl hq
        clear hpl
        go_wp2_with (first
          | (go_at_call 36; refine (hq _ (Below.refl _ _)).mono ?_; rintro e w1 ⟨rfl, hB1⟩; have ho1 := ho.below0 hB1; have hBw1 := below_new hB hB1)
          | (at_builtin; refine wpList_append_ck rfl _ _ rfl rfl rfl (ho1.below0 (below_new1 w1 _)) (one_ck' w1 _ _) (by rw [hdl]; simp; omega) (by have := hB1.size; simp; omega) ?_; intro v2 w2 hown2 hg2; have F2 : Hid (OwnChunks w2 w.heap.size v2 (docC m cn (i + 1)) ∧ Below w.heap.size w w2) := (by rw [HM.out]; exact ⟨hown2, below_grownH (hBw1.trans ((below_new1 w1 _).mono hBw1.size)) hg2 ho1.new⟩); clear hown2 hg2 ho1 ho hB1 hBw1 hB hq))
        exact ⟨⟨i + 1, e64, by have := HLO.out; have := HE.out; omega, by go_num, by omega, F2.out.1, F2.out.2⟩, by have := HLO.out; have := HE.out; simp [intOf]; omega⟩
    · have hii : ¬ (lo : Int) < n := by omega
      have HI : Hid (i = cn) := by show _ = _; omega
      clear hlo
      go_wp2_with fail
      go_ret
      rw [HI.out] at ho
      refine ⟨_, rfl, _, ?_, ho, hB⟩
      have h := docC_all (m := m) (fun h => List.eq_nil_of_length_eq_zero (by unfold cnt64 at h; omega))
      rw [HCN.out] at h
      exact h
end Go.Proofs.Ytiokbhbggpibpaa
/-
  The law's made: at most twenty chunks of a row, each of at most 600 bytes.
-/
namespace Go.Proofs.Ytiokbhbggpibpaa
open Go Go.RowKit

set_option maxRecDepth 8000 in
set_option maxHeartbeats 4000000 in
theorem made_any {w : World} {p : Option Addr} {n c : Nat} {L : List Ck} (hv : ChunksAt w (.slice p n c) L) (hn : L.length = n) :
    Calls Try.prog 15 #[.slice p n c] w fun e w' => ∃ v, e = .returned v ∧ ∃ K, OwnChunks w' w.heap.size v K ∧ K.length ≤ 20 ∧ (∀ c ∈ K, c.2.size ≤ 600) ∧ Below w.heap.size w w' := by
  have hbc := buildCk
  go_enter Try.func15, Try.ntmps15
  by_cases h20 : 20 < n
  · have h2i : (20 : Int) < n := by omega
    obtain ⟨hsl, hv1⟩ := chunks_to hv 20 (by omega)
    have hsl2 : ∀ W, (Instr.sliceAt 23 (.slice p n c) none (some (.int .i64 20)) none).run Try.prog W = .ok (.slice p 20 c) W := hsl
    clear hsl
    have HL : Hid ((L.take 20).length = 20) := by show _ = _; rw [List.length_take]; omega
    generalize L.take 20 = L1 at hv1 HL
    clear hv hn
    go_wp2_with fail
    go_loopw [3, 4] (fun x y wr => ∃ (k : Nat) (K : List Ck), y = .int .i64 (k : Nat) ∧ k ≤ 20 ∧ OwnChunks wr w.heap.size x K ∧ K.length = k ∧ (∀ c ∈ K, c.2.size ≤ 600) ∧ Below w.heap.size w wr) (fun _ y _ => 20 - (intOf y).toNat)
    case atStart => exact ⟨0, [], rfl, Nat.zero_le _, OwnChunks.nil _ _, rfl, by simp, Below.refl _ _⟩
    case round =>
      obtain ⟨k, K, rfl, hk, ho, hK, hS, hB⟩ := hrel
      have HK : Hid (K.length = k) := hK
      have HS : Hid (∀ c ∈ K, c.2.size ≤ 600) := hS
      clear hK hS
      by_cases hkn : k < 20
      · have hki : (k : Int) < 20 := by omega
        obtain ⟨⟨u, s⟩, hx⟩ : ∃ x, L1[k]? = some x := ⟨_, List.getElem?_eq_getElem (by rw [HL.out]; exact hkn)⟩
        obtain ⟨b, o, rfl, h1, c0, c1⟩ := (hv1.below hB).at hx
        clear h1
        dsimp only at c0 c1
        clear hx
        obtain ⟨W1, hW1⟩ : ∃ W1, wr.alloc (.cells #[.int .i64 u, .string s] 44) = W1 := ⟨_, rfl⟩
        obtain ⟨z, hz⟩ : ∃ z, wr.heap.size = z := ⟨_, rfl⟩
        have hZ : Holds W1 z 44 #[.int .i64 u, .string s] := by rw [← hW1, ← hz]; exact Holds.new _ _ _
        have hB1 : Below wr.heap.size wr W1 := by rw [← hW1]; exact below_new1 _ _
        have e0 : W1.cell? ⟨z, 0, none⟩ = some (.int .i64 u) := hZ.cell 0
        have e1 : W1.cell? ⟨z, 1, none⟩ = some (.string s) := hZ.cell 1
        have hf1 := hZ.frozen 1
        have hoB := fun W (hW : Below wr.heap.size wr W) o => (ho.below0 hW).below0 (below_new1 W o)
        have hsz0 := hB.size
        by_cases h6 : 600 < s.size
        · have h6i : (600 : Int) < s.size := by omega
          have hle : (600 : Int) ≤ s.size := by omega
          have hlen : 600 ≤ s.size := by omega
          obtain ⟨t, ht⟩ : ∃ t, s.extract 0 600 = t := ⟨_, rfl⟩
          have HZ : Hid (t.size ≤ 600) := by show _ ≤ _; rw [← ht]; simp; omega
          have hZ2 : Holds (W1.setCell ⟨z, 1, none⟩ (.string t)) z 44 #[.int .i64 u, .string t] := hZ.set 1 (.string t)
          have hBx : Below wr.heap.size wr (W1.setCell ⟨z, 1, none⟩ (.string t)) := Only.fresh hB1 ((Only.refl z W1).set 1 _) (by omega)
          generalize hW2 : W1.setCell ⟨z, 1, none⟩ (.string t) = W2 at hZ2 hBx
          have g0 : W2.cell? ⟨z, 0, none⟩ = some (.int .i64 u) := hZ2.cell 0
          have g1 : W2.cell? ⟨z, 1, none⟩ = some (.string t) := hZ2.cell 1
          go_wp2_with (at_builtin; refine wpList_append_ck rfl _ _ rfl rfl rfl (hoB _ hBx _) (one_ck' _ _ _) (by rw [HK.out]; simp; omega) (by have := hBx.size; simp; omega) ?_; intro v2 w2 hown2 hg2; have F2 : Hid (∃ K2, OwnChunks w2 w.heap.size v2 K2 ∧ K2.length = k + 1 ∧ (∀ c ∈ K2, c.2.size ≤ 600) ∧ Below w.heap.size w w2) := ⟨_, hown2, (by rw [List.length_append, HK.out]; rfl), (fun c hc => (List.mem_append.1 hc).elim (HS.out c) (fun e => by rw [List.mem_singleton.1 e]; exact HZ.out)), below_grownH ((below_new hB hBx).trans ((below_new1 _ _).mono (below_new hB hBx).size)) hg2 ho.new⟩)
          obtain ⟨K2, f1, f2, f3, f4⟩ := F2.out
          exact ⟨⟨k + 1, K2, by go_num, by omega, f1, f2, f3, f4⟩, by simp [intOf]; omega⟩
        · have h6i : ¬ (600 : Int) < s.size := by omega
          have HZ : Hid (s.size ≤ 600) := by show _ ≤ _; omega
          have hBx := hB1
          go_wp2_with (at_builtin; refine wpList_append_ck rfl _ _ rfl rfl rfl (hoB _ hBx _) (one_ck' _ _ _) (by rw [HK.out]; simp; omega) (by have := hBx.size; simp; omega) ?_; intro v2 w2 hown2 hg2; have F2 : Hid (∃ K2, OwnChunks w2 w.heap.size v2 K2 ∧ K2.length = k + 1 ∧ (∀ c ∈ K2, c.2.size ≤ 600) ∧ Below w.heap.size w w2) := ⟨_, hown2, (by rw [List.length_append, HK.out]; rfl), (fun c hc => (List.mem_append.1 hc).elim (HS.out c) (fun e => by rw [List.mem_singleton.1 e]; exact HZ.out)), below_grownH ((below_new hB hBx).trans ((below_new1 _ _).mono (below_new hB hBx).size)) hg2 ho.new⟩)
          obtain ⟨K2, f1, f2, f3, f4⟩ := F2.out
          exact ⟨⟨k + 1, K2, by go_num, by omega, f1, f2, f3, f4⟩, by simp [intOf]; omega⟩
      · have hki : ¬ (k : Int) < 20 := by omega
        go_wp2_with fail
        go_ret
        exact ⟨_, rfl, _, ho, by rw [HK.out]; omega, fun a b h => HS.out (a, b) h, hB⟩
  · have h2i : ¬ (20 : Int) < n := by omega
    have hv1 := hv
    have HL : Hid (L.length = n) := hn
    generalize L = L1 at hv1 HL
    clear hv hn
    go_wp2_with fail
    go_loopw [3, 4] (fun x y wr => ∃ (k : Nat) (K : List Ck), y = .int .i64 (k : Nat) ∧ k ≤ n ∧ OwnChunks wr w.heap.size x K ∧ K.length = k ∧ (∀ c ∈ K, c.2.size ≤ 600) ∧ Below w.heap.size w wr) (fun _ y _ => n - (intOf y).toNat)
    case atStart => exact ⟨0, [], rfl, Nat.zero_le _, OwnChunks.nil _ _, rfl, by simp, Below.refl _ _⟩
    case round =>
      obtain ⟨k, K, rfl, hk, ho, hK, hS, hB⟩ := hrel
      have HK : Hid (K.length = k) := hK
      have HS : Hid (∀ c ∈ K, c.2.size ≤ 600) := hS
      clear hK hS
      by_cases hkn : k < n
      · have hki : (k : Int) < n := by omega
        obtain ⟨⟨u, s⟩, hx⟩ : ∃ x, L1[k]? = some x := ⟨_, List.getElem?_eq_getElem (by rw [HL.out]; exact hkn)⟩
        obtain ⟨b, o, rfl, h1, c0, c1⟩ := (hv1.below hB).at hx
        clear h1
        dsimp only at c0 c1
        clear hx
        obtain ⟨W1, hW1⟩ : ∃ W1, wr.alloc (.cells #[.int .i64 u, .string s] 44) = W1 := ⟨_, rfl⟩
        obtain ⟨z, hz⟩ : ∃ z, wr.heap.size = z := ⟨_, rfl⟩
        have hZ : Holds W1 z 44 #[.int .i64 u, .string s] := by rw [← hW1, ← hz]; exact Holds.new _ _ _
        have hB1 : Below wr.heap.size wr W1 := by rw [← hW1]; exact below_new1 _ _
        have e0 : W1.cell? ⟨z, 0, none⟩ = some (.int .i64 u) := hZ.cell 0
        have e1 : W1.cell? ⟨z, 1, none⟩ = some (.string s) := hZ.cell 1
        have hf1 := hZ.frozen 1
        have hoB := fun W (hW : Below wr.heap.size wr W) o => (ho.below0 hW).below0 (below_new1 W o)
        have hsz0 := hB.size
        by_cases h6 : 600 < s.size
        · have h6i : (600 : Int) < s.size := by omega
          have hle : (600 : Int) ≤ s.size := by omega
          have hlen : 600 ≤ s.size := by omega
          obtain ⟨t, ht⟩ : ∃ t, s.extract 0 600 = t := ⟨_, rfl⟩
          have HZ : Hid (t.size ≤ 600) := by show _ ≤ _; rw [← ht]; simp; omega
          have hZ2 : Holds (W1.setCell ⟨z, 1, none⟩ (.string t)) z 44 #[.int .i64 u, .string t] := hZ.set 1 (.string t)
          have hBx : Below wr.heap.size wr (W1.setCell ⟨z, 1, none⟩ (.string t)) := Only.fresh hB1 ((Only.refl z W1).set 1 _) (by omega)
          generalize hW2 : W1.setCell ⟨z, 1, none⟩ (.string t) = W2 at hZ2 hBx
          have g0 : W2.cell? ⟨z, 0, none⟩ = some (.int .i64 u) := hZ2.cell 0
          have g1 : W2.cell? ⟨z, 1, none⟩ = some (.string t) := hZ2.cell 1
          go_wp2_with (at_builtin; refine wpList_append_ck rfl _ _ rfl rfl rfl (hoB _ hBx _) (one_ck' _ _ _) (by rw [HK.out]; simp; omega) (by have := hBx.size; simp; omega) ?_; intro v2 w2 hown2 hg2; have F2 : Hid (∃ K2, OwnChunks w2 w.heap.size v2 K2 ∧ K2.length = k + 1 ∧ (∀ c ∈ K2, c.2.size ≤ 600) ∧ Below w.heap.size w w2) := ⟨_, hown2, (by rw [List.length_append, HK.out]; rfl), (fun c hc => (List.mem_append.1 hc).elim (HS.out c) (fun e => by rw [List.mem_singleton.1 e]; exact HZ.out)), below_grownH ((below_new hB hBx).trans ((below_new1 _ _).mono (below_new hB hBx).size)) hg2 ho.new⟩)
          obtain ⟨K2, f1, f2, f3, f4⟩ := F2.out
          exact ⟨⟨k + 1, K2, by go_num, by omega, f1, f2, f3, f4⟩, by simp [intOf]; omega⟩
        · have h6i : ¬ (600 : Int) < s.size := by omega
          have HZ : Hid (s.size ≤ 600) := by show _ ≤ _; omega
          have hBx := hB1
          go_wp2_with (at_builtin; refine wpList_append_ck rfl _ _ rfl rfl rfl (hoB _ hBx _) (one_ck' _ _ _) (by rw [HK.out]; simp; omega) (by have := hBx.size; simp; omega) ?_; intro v2 w2 hown2 hg2; have F2 : Hid (∃ K2, OwnChunks w2 w.heap.size v2 K2 ∧ K2.length = k + 1 ∧ (∀ c ∈ K2, c.2.size ≤ 600) ∧ Below w.heap.size w w2) := ⟨_, hown2, (by rw [List.length_append, HK.out]; rfl), (fun c hc => (List.mem_append.1 hc).elim (HS.out c) (fun e => by rw [List.mem_singleton.1 e]; exact HZ.out)), below_grownH ((below_new hB hBx).trans ((below_new1 _ _).mono (below_new hB hBx).size)) hg2 ho.new⟩)
          obtain ⟨K2, f1, f2, f3, f4⟩ := F2.out
          exact ⟨⟨k + 1, K2, by go_num, by omega, f1, f2, f3, f4⟩, by simp [intOf]; omega⟩
      · have hki : ¬ (k : Int) < n := by omega
        go_wp2_with fail
        go_ret
        exact ⟨_, rfl, _, ho, by rw [HK.out]; omega, fun a b h => HS.out (a, b) h, hB⟩
end Go.Proofs.Ytiokbhbggpibpaa
