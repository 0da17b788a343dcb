/-
  The chapter's examples.
-/
import Derived.Test.YtiokbhbggpibpaaHGB
import Derived.Test.YtiokbhbggpibpaaHGC
namespace Go.Proofs.Ytiokbhbggpibpaa
open Go Go.RowKit

def upTo (k : Nat) : List Nat := (List.range k).map (· + 1)
theorem mem_upTo {k x : Nat} : x ∈ upTo k ↔ 1 ≤ x ∧ x ≤ k := by
  unfold upTo
  rw [List.mem_map]
  constructor
  · rintro ⟨y, hy, rfl⟩
    have := List.mem_range.1 hy
    omega
  · rintro ⟨h1, h2⟩
    exact ⟨x - 1, List.mem_range.2 (by omega), by omega⟩
theorem upTo_succ (k : Nat) : upTo (k + 1) = upTo k ++ [k + 1] := by
  unfold upTo
  rw [List.range_succ, List.map_append]
  rfl
theorem upTo_len (k : Nat) : (upTo k).length = k := by unfold upTo; simp
theorem nums_upTo : ∀ k, k ≤ 1000 → Nums (upTo k)
  | 0, _ => ⟨List.Pairwise.nil, fun x hx => by (cases hx)⟩
  | k + 1, h => by
    rw [upTo_succ]
    exact nums_more (nums_upTo k (by omega)) (by omega) fun x hx => by have := (mem_upTo.1 hx).2; omega
theorem upTo_last (k : Nat) : (upTo (k + 1)).getLastD 0 = k + 1 := by rw [upTo_succ]; simp
/-- The chunks of 1 to 65. -/
theorem awake_l {L : List Ck} (h : SplitOf (upTo 65) L) : L = [(64, dataOf (upTo 64)), (2147483647, dataOf [65])] := by
  refine h.uniq ⟨[upTo 64, [65]], ⟨upTo_len 64, by simp [Parted]⟩, ?_, ?_⟩
  · rw [upTo_succ 64]; simp
  · have e : (upTo 64).getLastD 0 = 64 := upTo_last 63
    rw [chk, chk, e]
    rfl
theorem awake_a {L : List Ck} (h : SplitOf (upTo 65 ++ [66]) L) : L = [(64, dataOf (upTo 64)), (2147483647, dataOf [65, 66])] := by
  refine h.uniq ⟨[upTo 64, [65, 66]], ⟨upTo_len 64, by simp [Parted]⟩, ?_, ?_⟩
  · rw [upTo_succ 64]; simp
  · have e : (upTo 64).getLastD 0 = 64 := upTo_last 63
    rw [chk, chk, e]
    rfl
theorem less_65 : lessF 65 (upTo 65) = upTo 64 := by
  rw [upTo_succ 64, less_app, less_all (fun x hx => by have := (mem_upTo.1 hx).2; omega)]
  simp [lessF]
theorem less_1 : lessF 1 (upTo 65) = [] := by
  refine List.filter_eq_nil_iff.2 fun x hx => ?_
  have := (mem_upTo.1 hx).1
  simp
  omega
theorem awake_b {L : List Ck} (h : SplitOf (lessF 65 (upTo 65)) L) : L = [(2147483647, dataOf (upTo 64))] := by
  rw [less_65] at h
  exact h.uniq ⟨[upTo 64], ⟨by rw [upTo_len]; omega, by rw [upTo_len]; omega⟩, by simp, rfl⟩
theorem awake_c {L : List Ck} (h : SplitOf (lessF 1 (upTo 65)) L) : L = [] := by
  rw [less_1] at h
  exact h.nil
theorem SplitOf.good {m : List Nat} {L : List Ck} (hm : Nums m) (h : SplitOf m L) : ∃ ps, Good ps ∧ ps.flatten = m ∧ L = chk ps := by
  obtain ⟨ps, h1, h2, h3⟩ := h
  exact ⟨ps, ⟨h1, by rw [h2]; exact hm⟩, h2, h3⟩
theorem parts_len {ps : List (List Nat)} (hg : Good ps) : ps.length ≤ ps.flatten.length := by
  have : ∀ ps : List (List Nat), (∀ p ∈ ps, 1 ≤ p.length) → ps.length ≤ ps.flatten.length := fun ps hp => by
    induction ps with
    | nil => simp
    | cons a l ih =>
      rw [List.flatten_cons, List.length_append, List.length_cons]
      have := hp a List.mem_cons_self
      have := ih fun p hp' => hp p (List.mem_cons_of_mem _ hp')
      omega
  exact this ps fun p hp => (hg.parted.one p hp).1
section
variable {w : World} {v : Value} {m : List Nat} {L : List Ck}
/-- The calls, of chunks that are told as a set's. -/
theorem append_of (hm : Nums m) (hml : m.length ≤ 10000) (hs : SplitOf m L) (hv : ChunksAt w v L) {n : Nat} (hn : n < 2147483648) (ha : ∀ x ∈ m, x < n) :
    Calls Try.prog 18 #[v, .int .i64 (n : Int)] w fun e w' => ∃ v' L', e = .returned (.tuple #[v', .int .i64 0]) ∧ SplitOf (m ++ [n]) L' ∧ OwnChunks w' w.heap.size v' L' ∧ Below w.heap.size w w' := by
  obtain ⟨ps, hg, rfl, rfl⟩ := hs.good hm
  exact happend_ok hv hg (by have := parts_len hg; omega) hn ha
theorem cut_of (hm : Nums m) (hml : m.length ≤ 10000) (hs : SplitOf m L) (hv : ChunksAt w v L) (f : Int) (hf : f ≤ 9223372036854775807) :
    Calls Try.prog 20 #[v, .int .i64 f] w fun e w' => ∃ v' L', e = .returned (.tuple #[v', .int .i64 0]) ∧ SplitOf (lessF f m) L' ∧ OwnChunks w' w.heap.size v' L' ∧ Below w.heap.size w w' := by
  obtain ⟨ps, hg, rfl, rfl⟩ := hs.good hm
  exact hcut_ok hv hg (by have := parts_len hg; omega) f hf
theorem find_of (hm : Nums m) (hml : m.length ≤ 10000) (hs : SplitOf m L) (hv : ChunksAt w v L) (f : Int) (hf : f ≤ 9223372036854775807) {x : Nat} {b : Bool} (h : LeastL m f x b) :
    Calls Try.prog 22 #[v, .int .i64 f] w fun e w' => e = .returned (.tuple #[.int .i64 (x : Nat), .bool b, .int .i64 0]) ∧ Below w.heap.size w w' := by
  obtain ⟨ps, hg, rfl, rfl⟩ := hs.good hm
  exact hfind_ok hv (by rw [chk_len]; have := parts_len hg; omega) f hf (find_good hg h rfl fun _ _ => rfl)
theorem len_of (hm : Nums m) (hs : SplitOf m L) : L.length ≤ m.length := by
  obtain ⟨ps, hg, rfl, rfl⟩ := hs.good hm
  rw [chk_len]
  exact parts_len hg
end
set_option maxRecDepth 100000 in
set_option maxHeartbeats 4000000 in
theorem awake6_any (w : World) : Calls Try.prog 9 #[] w fun e w' => e = .returned (.bool true) ∧ Below w.heap.size w w' := by
  have hnot := run_notH
  go_enter Try.func9, Try.ntmps9
  go_wp2_with fail
  refine (new_any (w := w) (v := .slice none 0 0) (l := []) (.inl ⟨rfl, none, 0, rfl⟩) (by simp) (by simp)).mono ?_
  rintro e w1 ⟨b, rfl, mo, hs, hb, hm, hB⟩
  have F0 : Hid (SetAt w1 b mo (ofN (upTo 0)) ∧ (∀ m, mo = some m → w.heap.size ≤ m) ∧ Below w.heap.size w w1) := by
    refine ⟨?_, hm, hB⟩
    have e0 : ofInts [] = ofN (upTo 0) := ofInts_ofN (p := []) ⟨List.Pairwise.nil, fun x hx => by simp at hx⟩
    rw [← e0]; exact hs
  clear hs hm hB
  go_wp2_with fail
  go_loopw [2] (fun y wr => ∃ (k : Nat) (mo : Option Nat), y = .int .i64 ((k : Int) + 1) ∧ k ≤ 65 ∧ SetAt wr b mo (ofN (upTo k)) ∧ (∀ m, mo = some m → w.heap.size ≤ m) ∧ Below w.heap.size w wr) (fun y _ => 66 - (intOf y).toNat)
  case atStart => exact ⟨0, mo, rfl, by omega, F0.out.1, F0.out.2.1, F0.out.2.2⟩
  case round =>
    clear F0
    obtain ⟨k, mo, rfl, hk, hs, hm, hB⟩ := hrel
    by_cases hk65 : k < 65
    · have hki : (k : Int) + 1 ≤ 65 := by omega
      have had := add_any hs (((k + 1 : Nat)) : Int) (by omega)
      rw [addB_ofN (by omega) (fun x hx => by have := (mem_upTo.1 hx).2; omega), addM_ofN _ (by omega), ← upTo_succ] at had
      rw [show ((k + 1 : Nat) : Int) = (k : Int) + 1 by omega] at had
      go_wp2_with fail
      refine had.mono ?_
      rintro e w2 ⟨rfl, mo2, hs2, hn2, ho2⟩
      clear had
      have F2 : Hid (SetAt w2 b mo2 (ofN (upTo (k + 1))) ∧ (∀ m, mo2 = some m → w.heap.size ≤ m) ∧ Below w.heap.size w w2) := by
        refine ⟨hs2, fun m e => ?_, OnlyS.fresh hB ho2 hb hm⟩
        have := hB.size
        rcases hn2 with rfl | ⟨m', rfl, hm'⟩
        · exact hm m e
        · injection e with e
          omega
      clear hs2 ho2 hn2 hs hm hB
      go_wp2_with fail
      go_roundw
      case rel => exact ⟨k + 1, mo2, by go_num, by omega, F2.out.1, F2.out.2.1, F2.out.2.2⟩
      case measure => simp [intOf]; omega
    · obtain rfl : k = 65 := by omega
      have hnu := nums_upTo 65 (by omega)
      have hsp := hsplit_any hs.view (by rw [hnu.mem, upTo_len]; omega)
      rw [hnu.mem] at hsp
      go_wp2_with fail
      refine hsp.mono ?_
      rintro e w2 ⟨v2, L, rfl, hL, ho2, hB2⟩
      clear hsp
      have hl65 : (upTo 65).length ≤ 10000 := by rw [upTo_len]; omega
      have hv2 := ho2.at
      have hBw := below_new hB hB2
      obtain rfl := awake_l hL
      obtain ⟨p2, c2, rfl⟩ := hv2.shape
      obtain ⟨g2, o2, rfl, _, u0, _⟩ := hv2.at (i := 0) rfl
      obtain ⟨g3, o3, e3, _, u1, _⟩ := hv2.at (i := 1) rfl
      injection e3 with e3
      injection e3 with e31 e32
      subst e31 e32
      dsimp only at u0 u1
      have hbl := World.block_lt_of_cell? _ _ u0
      go_wp2_with fail
      refine (append_of hnu hl65 hL hv2 (n := 66) (by omega) (fun x hx => by have := (mem_upTo.1 hx).2; omega)).mono ?_
      rintro e w3 ⟨v3, La, rfl, hLa, ho3, hB3⟩
      obtain rfl := awake_a hLa
      obtain ⟨p3, c3, rfl⟩ := ho3.at.shape
      go_wp2_with fail
      refine (cut_of hnu hl65 hL (hv2.below hB3) 65 (by omega)).mono ?_
      rintro e w4 ⟨v4, Lb, rfl, hLb, ho4, hB4⟩
      obtain rfl := awake_b hLb
      obtain ⟨p4, c4, rfl⟩ := ho4.at.shape
      obtain ⟨g4, o4, rfl, _, u4, _⟩ := ho4.at.at (i := 0) rfl
      dsimp only at u4
      have hbl4 := World.block_lt_of_cell? _ _ u4
      go_wp2_with fail
      refine (cut_of hnu hl65 hL ((hv2.below hB3).below hB4) 1 (by omega)).mono ?_
      rintro e w5 ⟨v5, Lc, rfl, hLc, ho5, hB5⟩
      obtain rfl := awake_c hLc
      obtain ⟨p5, c5, rfl⟩ := ho5.at.shape
      go_wp2_with fail
      refine (find_of hnu hl65 hL (((hv2.below hB3).below hB4).below hB5) 65 (by omega) (x := 65) (b := true) (.inl ⟨rfl, mem_upTo.2 (by omega), by omega, fun y hy h => by omega⟩)).mono ?_
      rintro e w6 ⟨rfl, hB6⟩
      go_wp2_with fail
      refine (find_of hnu hl65 hL ((((hv2.below hB3).below hB4).below hB5).below hB6) 67 (by omega) (x := 0) (b := false) (.inr ⟨rfl, rfl, fun y hy => by have := (mem_upTo.1 hy).2; omega⟩)).mono ?_
      rintro e w7 ⟨rfl, hB7⟩
      have hB37 := below_new (below_new (below_new (below_new hB3 hB4) hB5) hB6) hB7
      have hB57 := below_new (below_new hB5 hB6) hB7
      have k0 : w7.cell? ⟨g2, o2, none⟩ = some (.int .i64 64) := (hB37.cell (p := ⟨g2, o2 + 0 * 2, none⟩) hbl).trans u0
      have k1 : w7.cell? ⟨g2, o2 + 2, none⟩ = some (.int .i64 2147483647) := (hB37.cell (p := ⟨g2, o2 + 1 * 2, none⟩) hbl).trans u1
      have k4 : w7.cell? ⟨g4, o4, none⟩ = some (.int .i64 2147483647) := (hB57.cell (p := ⟨g4, o4 + 0 * 2, none⟩) hbl4).trans u4
      have hfin : Hid (Below w.heap.size w w7) := below_new hBw hB37
      clear hv2 ho2 ho3 ho4 ho5 hB37 hB57 hB7 hB6 hB5 hB4 hB3 hB2 hBw hs hB hm u0 u1 u4
      go_wp2_with fail
      go_ret
      exact ⟨rfl, hfin.out⟩
end Go.Proofs.Ytiokbhbggpibpaa
