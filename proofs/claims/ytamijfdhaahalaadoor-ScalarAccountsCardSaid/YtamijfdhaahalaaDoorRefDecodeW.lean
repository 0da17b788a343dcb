/-
  What the document's Decode does.
-/
import Derived.Test.YtamijfdhaahalaaDoorThingsW
import Derived.Test.YtamijfdhaahalaaDoorDecodeW
namespace Go.Proofs.YtamijfdhaahalaaDoor
open Go Go.RowKit

theorem things_pos {most : Nat} {t : List UInt8} {q : Row} (ht : t ≠ []) (h : things most t = some q) : 1 ≤ q.len := by
  cases hs : split t with
  | none => rw [things_none ht hs] at h; cases h
  | some x =>
    obtain ⟨p, l, r⟩ := x
    cases most with
    | zero => rw [things_deep ht] at h; cases h
    | succ most =>
      cases l with
      | false =>
        rw [things_text ht hs] at h
        obtain ⟨q2, _, rfl⟩ := Option.map_eq_some_iff.1 h
        simp [Row.len]
      | true =>
        rw [things_list ht hs] at h
        cases hp : things most p with
        | none => rw [hp] at h; cases h
        | some q3 =>
          rw [hp] at h
          obtain ⟨q2, _, rfl⟩ := Option.map_eq_some_iff.1 h
          simp [Row.len]
theorem decode_things (l : List UInt8) : decode l = match things 16 l with
    | some r => if r.len = 1 then some r else none
    | none => none := by
  by_cases h0 : l = []
  · subst h0; rfl
  cases hs : split l with
  | none => rw [things_none h0 hs]; unfold decode; rw [hs]
  | some x =>
    obtain ⟨p, b, t⟩ := x
    by_cases ht : t = []
    · subst ht
      have hd : decode l = things 16 l := by unfold decode; rw [hs]
      cases hq : things 16 l with
      | none => rw [hd, hq]
      | some r =>
        rw [hq] at hd
        obtain ⟨b, s, i, rfl, _, _⟩ := decode_one hd
        rw [hd]; rfl
    · rw [things_split hs ht]
      have key : ∀ q, things 16 l = some q → 2 ≤ q.len := by
        intro q hq
        cases b with
        | false =>
          rw [things_text h0 hs] at hq
          obtain ⟨q2, h2, rfl⟩ := Option.map_eq_some_iff.1 hq
          have := things_pos ht h2
          simp only [Row.len]; omega
        | true =>
          rw [things_list h0 hs] at hq
          cases hp : things 15 p with
          | none => rw [hp] at hq; cases hq
          | some q3 =>
            rw [hp] at hq
            obtain ⟨q2, h2, rfl⟩ := Option.map_eq_some_iff.1 hq
            have := things_pos ht h2
            simp only [Row.len]; omega
      cases hq : things 16 l with
      | none => rfl
      | some q => have := key q hq; dsimp only; rw [if_neg (by omega)]

set_option maxRecDepth 8000 in
set_option maxHeartbeats 4000000 in
theorem refDecode_any (x : ByteArray) (w : World) (hx : x.size ≤ 1000000) :
    Calls Tryd.prog 45 #[.string x] w fun e w' => ItemAns w w' (decode x.data.toList) e ∧ Below w.heap.size w w' := by
  have hd := decode_things x.data.toList
  cases hq : things 16 x.data.toList with
  | none =>
    rw [hq] at hd
    rw [hd]
    clear hd
    go_enter Tryd.func45, Tryd.ntmps45
    go_wp2_with (first
      | (go_at_call 69; refine (things_any (x.size + 1) x 16 _ (by omega) hx (by omega)).mono ?_; rintro e w2 ⟨hans, hB2⟩; rw [hq] at hans; obtain rfl : e = _ := hans
         have hm : Holds w2 w.heap.size 45 #[.bool false, .string ⟨#[]⟩, .slice none 0 0] := below_holds hB2 (Holds.new w _ _)
         have hB2w := one_alloc hB2)
      | (refine wpList_storeH rfl 45 _ _ rfl w.heap.size #[.bool false, .string ⟨#[]⟩, .slice none 0 0] rfl rfl 45 _ hm infoItem3 rfl (item_one _ _ _ _ _) ?_
         intro w3 h3 o3 z3)
      | fail)
    refine bodyPost_ret (results_cellH2 (p := 2) (u := 3) rfl _ w3 w.heap.size 45 _ _ rfl h3 Tryd.underlying45 rfl infoItem3) rfl ⟨rfl, ?_⟩
    exact Only.fresh' hB2w o3 ⟨Nat.le_refl _, hB2w.size⟩
  | some r =>
    have hrl := things_len x.size x.data.toList (by rw [sizeB]; omega) r hq
    rw [sizeB] at hrl
    rw [hq] at hd
    dsimp only at hd
    by_cases h1 : r.len = 1
    · rw [if_pos h1] at hd
      obtain ⟨b, s, i, rfl, hsl, hil⟩ := decode_one hd
      rw [sizeB] at hsl hil
      have hlen1 : (Row.item b s i .nil).len = 1 := rfl
      rw [hd]
      clear hd h1
      go_enter Tryd.func45, Tryd.ntmps45
      go_wp2_with (first
        | (go_at_call 69; refine (things_any (x.size + 1) x 16 _ (by omega) hx (by omega)).mono ?_; rintro e w2 ⟨hans, hB2⟩; rw [hq] at hans; obtain ⟨aq, cq, rfl, hlq⟩ := hans
           obtain ⟨bk, o, a', c', rfl, hbk, hc0, hc1, hc2, _, _, hli, _⟩ := hlq
           have hm : Holds w2 w.heap.size 45 #[.bool false, .string ⟨#[]⟩, .slice none 0 0] := below_holds hB2 (Holds.new w _ _)
           have hB2w := one_alloc hB2
           have hr3 := range3 hc0 hc1 hc2
           have HR3 : Hid (w2.rangeAt bk o [.bool b, .string ⟨s.toArray⟩, .slice a' i.len c']) := hr3
           rw [World.size_alloc] at hbk
           have HLI : Hid (Lies w2 (fun k => (w.alloc (.cells #[.bool false, .string ⟨#[]⟩, .slice none 0 0] 45)).heap.size ≤ k ∧ k < w2.heap.size) i a') := hli
           clear hr3 hc0 hc1 hc2 hli)
        | (refine wpList_load_mid rfl 45 _ rfl bk o rfl _ _ HR3.out Tryd.underlying45 rfl infoItem3 ?_)
        | (refine wpList_storeH rfl 45 _ _ rfl w.heap.size #[.bool b, .string ⟨s.toArray⟩, .slice a' i.len c'] rfl rfl 45 _ hm infoItem3 rfl (item_one _ _ _ _ _) ?_
           intro w3 h3 o3 z3)
        | fail)
      refine bodyPost_ret (results_cellH2 (p := 2) (u := 3) rfl _ w3 w.heap.size 45 _ _ rfl h3 Tryd.underlying45 rfl infoItem3) rfl ⟨?_, ?_⟩
      · refine ⟨a', c', rfl, by omega, by omega, ?_⟩
        refine (HLI.out.kept fun k hk => o3.block k hk.2 (by have := hk.1; rw [World.size_alloc] at this; omega)).mono fun k hk => ⟨by have := hk.1; rw [World.size_alloc] at this; omega, by rw [z3]; exact hk.2⟩
      · exact Only.fresh' hB2w o3 ⟨Nat.le_refl _, hB2w.size⟩
    · rw [if_neg h1] at hd
      rw [hd]
      have h1i : ¬ (r.len : Int) = 1 := by omega
      have hri : (r.len : Int) ≤ 1000000 := by omega
      clear hd
      go_enter Tryd.func45, Tryd.ntmps45
      go_wp2_with (first
        | (go_at_call 69; refine (things_any (x.size + 1) x 16 _ (by omega) hx (by omega)).mono ?_; rintro e w2 ⟨hans, hB2⟩; rw [hq] at hans; obtain ⟨aq, cq, rfl, hlq⟩ := hans
           have hm : Holds w2 w.heap.size 45 #[.bool false, .string ⟨#[]⟩, .slice none 0 0] := below_holds hB2 (Holds.new w _ _)
           have hB2w := one_alloc hB2)
        | (refine wpList_storeH rfl 45 _ _ rfl w.heap.size #[.bool false, .string ⟨#[]⟩, .slice none 0 0] rfl rfl 45 _ hm infoItem3 rfl (item_one _ _ _ _ _) ?_
           intro w3 h3 o3 z3)
        | fail)
      refine bodyPost_ret (results_cellH2 (p := 2) (u := 3) rfl _ w3 w.heap.size 45 _ _ rfl h3 Tryd.underlying45 rfl infoItem3) rfl ⟨rfl, ?_⟩
      exact Only.fresh' hB2w o3 ⟨Nat.le_refl _, hB2w.size⟩
end Go.Proofs.YtamijfdhaahalaaDoor
