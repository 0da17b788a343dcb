/-
  What the call of Sum(parts..) does.
-/
import Derived.Test.YtjbenoaefjlbaaaDoorSumW
namespace Go.Proofs.YtjbenoaefjlbaaaDoor
open Go.RowKit

/-- All bytes of the parts, one behind the other. -/
def cat (ps : List ByteArray) : List UInt8 := (ps.map fun p => p.data.toList).flatten
theorem cat_take (ps : List ByteArray) (k : Nat) (h : k < ps.length) : cat (ps.take (k + 1)) = cat (ps.take k) ++ ps[k].data.toList := by
  rw [List.take_succ_eq_append_getElem h]
  unfold cat
  rw [List.map_append, List.flatten_append]
  simp only [List.map_cons, List.map_nil, List.flatten_cons, List.flatten_nil, List.append_nil]
theorem cat_length_take (ps : List ByteArray) (k : Nat) (h : k < ps.length) : (cat (ps.take k)).length + ps[k].size ≤ (cat ps).length := by
  have e : cat ps = cat (ps.take (k + 1)) ++ cat (ps.drop (k + 1)) := by
    unfold cat
    rw [← List.flatten_append, ← List.map_append, List.take_append_drop]
  rw [e, cat_take ps k h, List.length_append, List.length_append]
  have : ps[k].data.toList.length = ps[k].size := rfl
  omega

/-- A slice of strings in memory. -/
def Texts (w : World) (v : Value) (ps : List ByteArray) : Prop :=
  ∃ base cap, v = .slice base ps.length cap ∧ ∀ i (h : i < ps.length), ∃ c o, base = some ⟨c, o, none⟩ ∧ c < w.heap.size ∧ w.cell? ⟨c, o + i, none⟩ = some (.string ps[i])

theorem Texts.below {w w' : World} {v : Value} {ps : List ByteArray} (h : Texts w v ps) (k : Below w.heap.size w w') : Texts w' v ps := by
  obtain ⟨base, cap, h1, h2⟩ := h
  refine ⟨base, cap, h1, fun i hi => ?_⟩
  obtain ⟨c, o, e, hl, hc⟩ := h2 i hi
  exact ⟨c, o, e, Nat.lt_of_lt_of_le hl k.size, by rw [k.cell (p := ⟨c, o + i, none⟩) hl]; exact hc⟩

set_option maxRecDepth 4000 in
set_option maxHeartbeats 1000000 in
theorem sumParts_any (v : Value) (ps : List ByteArray) (w : World) (hv : Texts w v ps) (hT : Tabs w) (hM : (cat ps).length < 4611686018427387904) (hl : ps.length < 4611686018427387904) :
    Calls Tryd.prog 21 #[v] w fun e w' => e = .returned (.agg (bytesA 32 (hashOf (cat ps)))) ∧ Below w.heap.size w w' := by
  obtain ⟨base, cap, rfl, hc⟩ := hv
  have hz := zeroHash
  go_enter Tryd.func21, Tryd.ntmps21
  go_wp2
  clear hz
  obtain ⟨n, hn⟩ : ∃ n, n = w.heap.size := ⟨_, rfl⟩
  have hn3 : 4 ≤ n := hn ▸ hT.size
  rw [← hn]
  have HN : Hid (n = w.heap.size) := hn
  clear hn
  go_loopw [8] (fun y wr => ∃ k : Nat, k ≤ ps.length ∧ y = .int .i64 k ∧ Below w.heap.size w wr ∧ Hashes wr (n + 1) (cat (ps.take k)) ∧ (∃ q, Holds wr n 44 (bytesA 32 q))) (fun y _ => ps.length - (intOf y).toNat)
  case atStart =>
    refine ⟨0, by omega, rfl, ((Below.refl _ _).alloc (Nat.le_refl _) _).alloc (by simp) _, ?_, fun _ => 0, ?_⟩
    · have h := Holds.new (w.alloc (.cells (bytesA 32 fun _ => 0) 44)) 59 (hashA (fun _ => 0) (fun _ => 0) 0)
      rw [World.size_alloc, ← HN.out] at h
      exact Hashes.zero h
    · rw [HN.out]; exact (Holds.new w 44 (bytesA 32 fun _ => 0)).alloc _
  case round =>
    obtain ⟨k, hk, rfl, hB, hh, q, hq⟩ := hrel
    have hTr := hT.below hB
    by_cases hlt : k < ps.length
    · have hk1 : (k : Int) < ps.length := by omega
      obtain ⟨c, o, rfl, hcl, hck⟩ := hc k hlt
      have hck2 : wr.cell? ⟨c, o + k, none⟩ = some (.string ps[k]) := by rw [hB.cell (p := ⟨c, o + k, none⟩) hcl]; exact hck
      have hL := cat_length_take ps k hlt
      have HC := cat_take ps k hlt
      have H2 : Hid _ := HC
      obtain ⟨p, hp⟩ : ∃ p, p = ps[k] := ⟨_, rfl⟩
      rw [← hp] at hck2 hL H2
      clear hck HC hp
      go_wp2_with fail
      refine (write_any (n + 1) _ p wr hh hTr (by omega) (by omega)).mono ?_
      rintro e w1 ⟨rfl, o1, h1⟩
      go_wp2
      go_roundw
      case rel =>
        refine ⟨k + 1, by omega, rfl, Only.fresh hB o1 (by have := HN.out; omega), ?_, q, o1.holds hq (by omega)⟩
        rw [H2.out]; exact h1
      case measure => simp [intOf]; omega
    · have hk1 : ¬ (k : Int) < ps.length := by omega
      have hkk : k = ps.length := by omega
      subst hkk
      rw [List.take_length] at hh
      clear hk
      go_wp2_with fail
      refine (sum_any _ _ _ hh hTr hM).mono ?_
      rintro e w1 ⟨rfl, hB1⟩
      have hq1 : Holds w1 n 44 (bytesA 32 q) := Below.holds hB1 hq
      have hin : (Tryd.prog.info? 44).map (·.size) = some (bytesA 32 (hashOf (cat ps))).size := by rw [bytesA_size]; exact info32
      have hzs : (bytesA 32 q).size = (bytesA 32 (hashOf (cat ps))).size := by rw [bytesA_size, bytesA_size]
      have hon := bytesA_one 32 (hashOf (cat ps))
      generalize hcs : bytesA 32 (hashOf (cat ps)) = cs at hin hzs hon ⊢
      have HCS : Hid (bytesA 32 (hashOf (cat ps)) = cs) := hcs
      clear hcs
      dsimp only
      go_wp2_with (first
        | (refine wpList_storeH rfl 44 _ _ rfl n cs rfl rfl 44 _ hq1 hin hzs hon ?_
           intro w5 h5 o5 z5)
        | fail)
      rw [← HCS.out] at h5 hin
      exact bodyPost_ret (results_cellH rfl _ _ n 44 (bytesA 32 (hashOf (cat ps))) _ rfl h5 Tryd.underlying44 rfl hin) rfl
        ⟨rfl, Only.fresh (hB.trans (hB1.mono hB.size)) o5 (by have := HN.out; omega)⟩

end Go.Proofs.YtjbenoaefjlbaaaDoor
