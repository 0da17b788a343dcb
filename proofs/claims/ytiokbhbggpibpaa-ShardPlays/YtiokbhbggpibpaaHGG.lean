/-
  Texts of this claim, put together.
-/
import Derived.Test.YtiokbhbggpibpaaHLaw
import Derived.Laws.StructEq
/-
  What the document's Same does of two rows that are alike.
-/
namespace Go.Proofs.Ytiokbhbggpibpaa
open Go Go.RowKit

theorem guardCk : Try.prog.eqGuardType Try.prog.depth 44 = false := by kernel_rfl
theorem eql_ck (w : World) (u u' : Int) (s s' : ByteArray) : (Op.equalIn 10000 44 (.agg #[.int .i64 u, .string s]) (.agg #[.int .i64 u', .string s'])).run Try.prog w = .ok (decide (u = u' ∧ s = s')) w := by
  rw [run_equalIn_struct w 9999 44 _ _ (by kernel_rfl) (by kernel_rfl)]
  go_simp
  by_cases h2 : s = s'
  · by_cases h1 : u = u' <;> simp [h1, h2]
  · have h3 : ¬ s.toList = s'.toList := fun q => h2 (ByteArray.ext (Array.toList_inj.mp (by rw [ByteArray.toList_eq, ByteArray.toList_eq] at q; exact q)))
    by_cases h1 : u = u' <;> simp [h1, h2, h3]
theorem ld_ck {w : World} {b o : Nat} {u : Int} {s : ByteArray} (h0 : w.cell? ⟨b, o, none⟩ = some (.int .i64 u)) (h1 : w.cell? ⟨b, o + 1, none⟩ = some (.string s)) : (loadVar 44 ⟨b, o, none⟩).run Try.prog w = .ok (.agg #[.int .i64 u, .string s]) w :=
  run_loadVar_mid w b o 44 [.int .i64 u, .string s] _ (fun j v hv => by
    match j with
    | 0 => simp at hv; rw [← hv]; exact h0
    | 1 => simp at hv; rw [← hv]; exact h1
    | k + 2 => simp at hv) Try.underlying44 rfl infoCk2
set_option maxRecDepth 8000 in
set_option maxHeartbeats 1000000 in
theorem qsame_eq {w : World} {v v' : Value} {L : List Ck} (hv : ChunksAt w v L) (hv' : ChunksAt w v' L) (hl : L.length ≤ 1000000) : Calls Try.prog 11 #[v, v'] w fun e w' => e = .returned (.bool true) ∧ Below w.heap.size w w' := by
  have hgd := guardCk
  obtain ⟨p, c, rfl⟩ := hv.shape
  obtain ⟨p', c', rfl⟩ := hv'.shape
  obtain ⟨n, hn⟩ : ∃ n, L.length = n := ⟨_, rfl⟩
  have HN : Hid (L.length = n) := hn
  rw [hn] at hv hv' hl ⊢
  clear hn
  have hni : (n : Int) ≤ 1000000 := by omega
  go_enter Try.func11, Try.ntmps11
  go_wp2_with fail
  go_loopw [5] (fun y wr => ∃ k : Nat, y = .int .i64 (k : Nat) ∧ k ≤ n ∧ Below w.heap.size w wr) (fun y _ => n - (intOf y).toNat)
  case atStart => exact ⟨0, rfl, Nat.zero_le _, Below.refl _ _⟩
  case round =>
    obtain ⟨k, rfl, hk, hB⟩ := hrel
    by_cases hkn : k < n
    · have hki : (k : Int) < n := by omega
      obtain ⟨⟨u, s⟩, hx⟩ : ∃ x, L[k]? = some x := ⟨_, List.getElem?_eq_getElem (by rw [HN.out]; exact hkn)⟩
      obtain ⟨b, o, rfl, h1, c0, c1⟩ := (hv.below hB).at hx
      obtain ⟨b', o', rfl, h2, d0, d1⟩ := (hv'.below hB).at hx
      clear h1 h2
      dsimp only at c0 c1 d0 d1
      have heq := fun w => eql_ck w u u s s
      simp only [and_self, decide_true] at heq
      go_wp2_with fail
      refine wp_region_plan (fun W => (W.cell? ⟨b, o + k * 2, none⟩ = some (.int .i64 u) ∧ W.cell? ⟨b, o + k * 2 + 1, none⟩ = some (.string s)) ∧ W.cell? ⟨b', o' + k * 2, none⟩ = some (.int .i64 u) ∧ W.cell? ⟨b', o' + k * 2 + 1, none⟩ = some (.string s)) [.take 0, .take 1, .take 2, .take 3, .take 4, .take 5, .take 6, .take 7, .take 8] mixedP (by kernel_rfl) rfl (by kernel_rfl) (fun _ _ _ d _ h => by cases d <;> exact h) ⟨⟨c0, c1⟩, d0, d1⟩ ?_
      refine plan_valG (some 17) rfl rfl rfl (.slice (some ⟨b, o, none⟩) n c) (fun _ => by go_simp) ?_
      go_frame
      refine plan_valG (some 18) rfl rfl rfl (.int .i64 (k : Nat)) (fun _ => by go_simp) ?_
      go_frame
      refine plan_valG (some 19) rfl rfl rfl (.pointer (some ⟨b, o + k * 2, none⟩)) (fun _ => by go_simp) ?_
      go_frame
      refine plan_ldG (some 20) rfl rfl rfl _ _ rfl rfl (v := .agg #[.int .i64 u, .string s]) (fun W hW => ld_ck hW.1.1 hW.1.2) ?_
      go_frame
      refine plan_valG (some 21) rfl rfl rfl (.slice (some ⟨b', o', none⟩) n c') (fun _ => by go_simp) ?_
      go_frame
      refine plan_valG (some 22) rfl rfl rfl (.int .i64 (k : Nat)) (fun _ => by go_simp) ?_
      go_frame
      refine plan_valG (some 23) rfl rfl rfl (.pointer (some ⟨b', o' + k * 2, none⟩)) (fun _ => by go_simp) ?_
      go_frame
      refine plan_ldG (some 24) rfl rfl rfl _ _ rfl rfl (v := .agg #[.int .i64 u, .string s]) (fun W hW => ld_ck hW.2.1 hW.2.2) ?_
      go_frame
      refine plan_valG (some 25) rfl rfl rfl (.bool false) (fun _ => by go_simp) ?_
      go_frame
      refine then_normalH ?_
      go_at_K
      have HB : Hid (Below w.heap.size w wr.drew) := ⟨hB.os, hB.tape, hB.output, hB.size, hB.block⟩
      clear hB c0 c1 d0 d1
      go_wp2_with fail
      exact ⟨⟨k + 1, by go_num, by omega, HB.out⟩, by simp [intOf]; omega⟩
    · have hki : ¬ (k : Int) < n := by omega
      go_wp2_with fail
      go_ret
      exact ⟨rfl, hB⟩
end Go.Proofs.Ytiokbhbggpibpaa
/-
  What the document's Same does of two rows that are not alike.
-/
namespace Go.Proofs.Ytiokbhbggpibpaa
open Go Go.RowKit

set_option maxRecDepth 8000 in
set_option maxHeartbeats 1000000 in
theorem qsame_ne {w : World} {v v' : Value} {L L' : List Ck} (hv : ChunksAt w v L) (hv' : ChunksAt w v' L') (hl : L.length ≤ 1000000) (hl' : L'.length ≤ 1000000) (hne : L ≠ L') : Calls Try.prog 11 #[v, v'] w fun e w' => e = .returned (.bool false) ∧ Below w.heap.size w w' := by
  have hgd := guardCk
  obtain ⟨p, c, rfl⟩ := hv.shape
  obtain ⟨p', c', rfl⟩ := hv'.shape
  obtain ⟨n, hn⟩ : ∃ n, L.length = n := ⟨_, rfl⟩
  have HN : Hid (L.length = n) := hn
  obtain ⟨n', hn'⟩ : ∃ n', L'.length = n' := ⟨_, rfl⟩
  have HN' : Hid (L'.length = n') := hn'
  rw [hn] at hv hl ⊢
  rw [hn'] at hv' hl' ⊢
  clear hn hn'
  have hni : (n : Int) ≤ 1000000 := by omega
  have hni' : (n' : Int) ≤ 1000000 := by omega
  by_cases hnn : n = n'
  · subst hnn
    go_enter Try.func11, Try.ntmps11
    go_wp2_with fail
    go_loopw [5] (fun y wr => ∃ k : Nat, y = .int .i64 (k : Nat) ∧ k ≤ n ∧ Hid (L.take k = L'.take k) ∧ Below w.heap.size w wr) (fun y _ => n - (intOf y).toNat)
    case atStart => exact ⟨0, rfl, Nat.zero_le _, (by show _ = _; rfl), Below.refl _ _⟩
    case round =>
      obtain ⟨k, rfl, hk, HK, hB⟩ := hrel
      by_cases hkn : k < n
      · have hki : (k : Int) < n := by omega
        obtain ⟨⟨u, s⟩, hx⟩ : ∃ x, L[k]? = some x := ⟨_, List.getElem?_eq_getElem (by rw [HN.out]; exact hkn)⟩
        obtain ⟨⟨u', s'⟩, hx'⟩ : ∃ x, L'[k]? = some x := ⟨_, List.getElem?_eq_getElem (by rw [HN'.out]; exact hkn)⟩
        obtain ⟨b, o, rfl, h1, c0, c1⟩ := (hv.below hB).at hx
        obtain ⟨b', o', rfl, h2, d0, d1⟩ := (hv'.below hB).at hx'
        clear h1 h2
        dsimp only at c0 c1 d0 d1
        have heq := fun w => eql_ck w u u' s s'
        have HX : Hid (L[k]? = some (u, s) ∧ L'[k]? = some (u', s')) := ⟨hx, hx'⟩
        clear hx hx'
        by_cases hq : u = u' ∧ s = s'
        · have HT : Hid (L.take (k + 1) = L'.take (k + 1)) := by
            show _ = _
            rw [List.take_add_one, List.take_add_one, HK.out, HX.out.1, HX.out.2, hq.1, hq.2]
          rw [decide_eq_true hq] at heq
          clear hq
          go_wp2_with fail
          refine wp_region_plan (fun W => (W.cell? ⟨b, o + k * 2, none⟩ = some (.int .i64 u) ∧ W.cell? ⟨b, o + k * 2 + 1, none⟩ = some (.string s)) ∧ W.cell? ⟨b', o' + k * 2, none⟩ = some (.int .i64 u') ∧ W.cell? ⟨b', o' + k * 2 + 1, none⟩ = some (.string s')) [.take 0, .take 1, .take 2, .take 3, .take 4, .take 5, .take 6, .take 7, .take 8] mixedP (by kernel_rfl) rfl (by kernel_rfl) (fun _ _ _ d _ h => by cases d <;> exact h) ⟨⟨c0, c1⟩, d0, d1⟩ ?_
          refine plan_valG (some 17) rfl rfl rfl (.slice (some ⟨b, o, none⟩) n c) (fun _ => by go_simp) ?_
          go_frame
          refine plan_valG (some 18) rfl rfl rfl (.int .i64 (k : Nat)) (fun _ => by go_simp) ?_
          go_frame
          refine plan_valG (some 19) rfl rfl rfl (.pointer (some ⟨b, o + k * 2, none⟩)) (fun _ => by go_simp) ?_
          go_frame
          refine plan_ldG (some 20) rfl rfl rfl _ _ rfl rfl (v := .agg #[.int .i64 u, .string s]) (fun W hW => ld_ck hW.1.1 hW.1.2) ?_
          go_frame
          refine plan_valG (some 21) rfl rfl rfl (.slice (some ⟨b', o', none⟩) n c') (fun _ => by go_simp) ?_
          go_frame
          refine plan_valG (some 22) rfl rfl rfl (.int .i64 (k : Nat)) (fun _ => by go_simp) ?_
          go_frame
          refine plan_valG (some 23) rfl rfl rfl (.pointer (some ⟨b', o' + k * 2, none⟩)) (fun _ => by go_simp) ?_
          go_frame
          refine plan_ldG (some 24) rfl rfl rfl _ _ rfl rfl (v := .agg #[.int .i64 u', .string s']) (fun W hW => ld_ck hW.2.1 hW.2.2) ?_
          go_frame
          refine plan_valG (some 25) rfl rfl rfl (.bool false) (fun _ => by go_simp) ?_
          go_frame
          refine then_normalH ?_
          go_at_K
          have HB : Hid (Below w.heap.size w wr.drew) := ⟨hB.os, hB.tape, hB.output, hB.size, hB.block⟩
          clear hB c0 c1 d0 d1
          go_wp2_with fail
          exact ⟨⟨k + 1, by go_num, by omega, HT, HB.out⟩, by simp [intOf]; omega⟩
        · rw [decide_eq_false hq] at heq
          clear hq
          go_wp2_with fail
          refine wp_region_plan (fun W => (W.cell? ⟨b, o + k * 2, none⟩ = some (.int .i64 u) ∧ W.cell? ⟨b, o + k * 2 + 1, none⟩ = some (.string s)) ∧ W.cell? ⟨b', o' + k * 2, none⟩ = some (.int .i64 u') ∧ W.cell? ⟨b', o' + k * 2 + 1, none⟩ = some (.string s')) [.take 0, .take 1, .take 2, .take 3, .take 4, .take 5, .take 6, .take 7, .take 8] mixedP (by kernel_rfl) rfl (by kernel_rfl) (fun _ _ _ d _ h => by cases d <;> exact h) ⟨⟨c0, c1⟩, d0, d1⟩ ?_
          refine plan_valG (some 17) rfl rfl rfl (.slice (some ⟨b, o, none⟩) n c) (fun _ => by go_simp) ?_
          go_frame
          refine plan_valG (some 18) rfl rfl rfl (.int .i64 (k : Nat)) (fun _ => by go_simp) ?_
          go_frame
          refine plan_valG (some 19) rfl rfl rfl (.pointer (some ⟨b, o + k * 2, none⟩)) (fun _ => by go_simp) ?_
          go_frame
          refine plan_ldG (some 20) rfl rfl rfl _ _ rfl rfl (v := .agg #[.int .i64 u, .string s]) (fun W hW => ld_ck hW.1.1 hW.1.2) ?_
          go_frame
          refine plan_valG (some 21) rfl rfl rfl (.slice (some ⟨b', o', none⟩) n c') (fun _ => by go_simp) ?_
          go_frame
          refine plan_valG (some 22) rfl rfl rfl (.int .i64 (k : Nat)) (fun _ => by go_simp) ?_
          go_frame
          refine plan_valG (some 23) rfl rfl rfl (.pointer (some ⟨b', o' + k * 2, none⟩)) (fun _ => by go_simp) ?_
          go_frame
          refine plan_ldG (some 24) rfl rfl rfl _ _ rfl rfl (v := .agg #[.int .i64 u', .string s']) (fun W hW => ld_ck hW.2.1 hW.2.2) ?_
          go_frame
          refine plan_valG (some 25) rfl rfl rfl (.bool true) (fun _ => by go_simp) ?_
          go_frame
          refine then_normalH ?_
          go_at_K
          have HB : Hid (Below w.heap.size w wr.drew) := ⟨hB.os, hB.tape, hB.output, hB.size, hB.block⟩
          clear hB c0 c1 d0 d1
          go_wp2_with fail
          go_ret
          exact ⟨rfl, HB.out⟩
      · exfalso
        have h := HK.out
        rw [List.take_of_length_le (by rw [HN.out]; omega), List.take_of_length_le (by rw [HN'.out]; omega)] at h
        exact hne h
  · have hnb : ((n : Int) != (n' : Int)) = true := by rw [bne_iff_ne]; omega
    have hnj : ¬ (n : Int) = n' := by omega
    clear hv hv'
    go_enter Try.func11, Try.ntmps11
    go_wp2_with fail
    go_ret
    exact ⟨rfl, Below.refl _ _⟩
end Go.Proofs.Ytiokbhbggpibpaa
