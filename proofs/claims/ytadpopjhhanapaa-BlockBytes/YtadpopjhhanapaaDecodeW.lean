/-
  What Decode does.
-/
import Derived.Test.YtadpopjhhanapaaRowW
import Derived.Laws.ResultCell
import Derived.Laws.EntriesVeiled
namespace Go.Proofs.Ytadpopjhhanapaa
open Go Go.RowKit

/-- The one thing that bytes are. -/
def decode (l : List UInt8) : Option Row := match split l with
  | some (_, _, []) => things 16 l
  | _ => none
/-- What a call that reads a thing answers. -/
def ItemAns (w w' : World) (o : Option Row) (e : Ending) : Prop := match o with
  | some (.item b s i .nil) => ∃ a c, e = .returned (.tuple #[.agg #[.bool b, .string ⟨s.toArray⟩, .slice a i.len c], .int .i64 0]) ∧ s.length ≤ 1000000 ∧ i.len ≤ 1000000 ∧ Lies w' (fun k => w.heap.size ≤ k ∧ k < w'.heap.size) i a
  | _ => e = .returned (.tuple #[.agg #[.bool false, .string ⟨#[]⟩, .slice none 0 0], .int .i64 10])

theorem decode_one {l : List UInt8} {r : Row} (h : decode l = some r) : ∃ b s i, r = .item b s i .nil ∧ s.length ≤ l.length ∧ i.len ≤ l.length := by
  unfold decode at h
  split at h
  · next p b hs =>
    have h0 : l ≠ [] := by intro e; rw [e] at hs; cases hs
    have hl := split_len hs
    cases b with
    | false =>
      rw [things_text h0 hs, things_nil] at h
      cases h
      exact ⟨false, p, .nil, rfl, by omega, by simp [Row.len]⟩
    | true =>
      rw [things_list h0 hs, things_nil] at h
      cases hp : things 15 p with
      | none => rw [hp] at h; cases h
      | some q =>
        rw [hp] at h; cases h
        have := things_len p.length p (Nat.le_refl _) q hp
        exact ⟨true, [], q, rfl, by simp, by omega⟩
  · cases h

theorem results_cellH2 {P : Program} {fn : Func} {p u : Tmp} {ty : TypeId} (h : fn.results = #[.cell p ty, .tmp u]) (tmps : Array Value) (w : World) (b : Nat) (t : TypeId) (cs : Array Value) (d : TypeDesc)
    (hp : tmps.getD p undef = .pointer (some ⟨b, 0, none⟩)) (hh : Holds w b t cs)
    (hu : P.underlying ty = some d) (hd : d.isRow = true) (hi : (P.info? ty).map (·.size) = some cs.size) : (results fn tmps).run P w = .ok (.tuple #[.agg cs, tmps.getD u undef]) w := by
  have hr := run_loadVar_row w b t ty cs (0, 0) d hh hu (by cases d <;> simp_all) hi
  rw [results_cell_tmp h, hp]
  simp [asAddr, hr]

theorem things_split {l p t : List UInt8} {b : Bool} (h : split l = some (p, b, t)) (ht : t ≠ []) : decode l = none := by
  unfold decode
  rw [h]
  cases t with
  | nil => exact absurd rfl ht
  | cons c r => rfl
theorem range3 {w : World} {b o : Nat} {x y z : Value} (h0 : w.cell? ⟨b, o, none⟩ = some x) (h1 : w.cell? ⟨b, o + 1, none⟩ = some y) (h2 : w.cell? ⟨b, o + 2, none⟩ = some z) : w.rangeAt b o [x, y, z] := by
  intro j v hv
  match j, hv with
  | 0, hv => rw [Nat.add_zero, h0]; simpa using hv
  | 1, hv => rw [h1]; simpa using hv
  | 2, hv => rw [h2]; simpa using hv
  | j + 3, hv => simp at hv

theorem boxed_new (w : World) : Boxed (w.alloc (.cells #[.func (.func 43) #[] #[.pointer (some ⟨w.heap.size, 0, none⟩)]] 72)) w.heap.size := by
  unfold Boxed; rw [World.cell?_alloc_mark]; rfl

set_option maxRecDepth 8000 in
set_option maxHeartbeats 4000000 in
theorem decode_any (x : ByteArray) (w : World) (hx : x.size ≤ 1000000) :
    Calls Try.prog 24 #[.string x] w fun e w' => ItemAns w w' (decode x.data.toList) e ∧ Below w.heap.size w w' := by
  have hmf : ∀ (fn : Fn) (first cap : Array Value) (w : World), (Instr.makeFunc fn first cap).run Try.prog w = .ok (.func fn first cap) w := fun _ _ _ _ => rfl
  have hxx : x.size < 4611686018427387904 := by omega
  obtain ⟨n, hn⟩ : ∃ n, n = w.heap.size := ⟨_, rfl⟩
  have HN : Hid (n = w.heap.size) := hn
  clear hn
  cases hsp : split x.data.toList with
  | none =>
    have hd : decode x.data.toList = none := by unfold decode; rw [hsp]
    rw [hd]
    clear hd
    go_enter Try.func24, Try.ntmps24
    go_wp2_with (first
      | (go_at_call 42; refine (split_any x _ hxx).mono ?_; rintro e w1 ⟨rfl, hB1⟩; rw [hsp]; unfold splitV
         have hm : Holds w1 w.heap.size 54 #[.bool false, .string ⟨#[]⟩, .slice none 0 0] := below_holds hB1 (Holds.new w _ _)
         have hB1w := one_alloc hB1)
      | (refine wpList_storeH rfl 54 _ _ rfl w.heap.size #[.bool false, .string ⟨#[]⟩, .slice none 0 0] rfl rfl 54 _ hm infoItem3 rfl (item_one _ _ _ _ _) ?_
         intro w3 h3 o3 z3)
      | fail)
    refine bodyPost_ret (results_cellH2 (p := 2) (u := 3) rfl _ w3 w.heap.size 54 _ _ rfl h3 Try.underlying54 rfl infoItem3) rfl ⟨rfl, ?_⟩
    exact Only.fresh' hB1w o3 ⟨Nat.le_refl _, hB1w.size⟩
  | some q =>
    obtain ⟨p, l, t⟩ := q
    obtain ⟨a1, a2, a3⟩ := split_len hsp
    rw [sizeB] at a1 a2 a3
    by_cases ht : t = []
    · subst ht
      have hd : decode x.data.toList = things 16 x.data.toList := by unfold decode; rw [hsp]
      cases hq : things 16 x.data.toList with
      | none =>
        rw [hd, hq]
        clear hd
        go_enter Try.func24, Try.ntmps24
        go_wp2_with (first
          | (go_at_call 42; refine (split_any x _ hxx).mono ?_; rintro e w1 ⟨rfl, hB1⟩; rw [hsp]; unfold splitV
             have hm1 : Holds w1 w.heap.size 54 #[.bool false, .string ⟨#[]⟩, .slice none 0 0] := below_holds hB1 (Holds.new w _ _)
             have hB1w := one_alloc hB1)
          | (go_at_call 43; refine (row_any (x.size + 1) x 16 1 w1.heap.size _ (by omega) hx (by omega) (by omega) (boxed_new w1)).mono ?_; rintro e w2 ⟨hans, hB2⟩; rw [hq] at hans; obtain rfl : e = _ := hans
             have hB2w := one_alloc hB2
             have hm : Holds w2 w.heap.size 54 #[.bool false, .string ⟨#[]⟩, .slice none 0 0] := below_holds hB2w hm1)
          | (refine wpList_storeH rfl 54 _ _ rfl w.heap.size #[.bool false, .string ⟨#[]⟩, .slice none 0 0] rfl rfl 54 _ hm infoItem3 rfl (item_one _ _ _ _ _) ?_
             intro w3 h3 o3 z3)
          | fail)
        refine bodyPost_ret (results_cellH2 (p := 2) (u := 3) rfl _ w3 w.heap.size 54 _ _ rfl h3 Try.underlying54 rfl infoItem3) rfl ⟨rfl, ?_⟩
        exact Only.fresh' (hB1w.trans (hB2w.mono hB1w.size)) o3 ⟨Nat.le_refl _, Nat.le_trans hB1w.size hB2w.size⟩
      | some r =>
        rw [hq] at hd
        obtain ⟨b, s, i, rfl, hsl, hil⟩ := decode_one hd
        rw [sizeB] at hsl hil
        have hlen1 : (Row.item b s i .nil).len = 1 := rfl
        rw [hd]
        clear hd
        go_enter Try.func24, Try.ntmps24
        go_wp2_with (first
          | (go_at_call 42; refine (split_any x _ hxx).mono ?_; rintro e w1 ⟨rfl, hB1⟩; rw [hsp]; unfold splitV
             have hm1 : Holds w1 w.heap.size 54 #[.bool false, .string ⟨#[]⟩, .slice none 0 0] := below_holds hB1 (Holds.new w _ _)
             have hB1w := one_alloc hB1)
          | (go_at_call 43; refine (row_any (x.size + 1) x 16 1 w1.heap.size _ (by omega) hx (by omega) (by omega) (boxed_new w1)).mono ?_; rintro e w2 ⟨hans, hB2⟩; rw [hq] at hans; obtain ⟨aq, cq, rfl, hlq⟩ := hans
             obtain ⟨bk, o, a', c', rfl, hbk, hc0, hc1, hc2, _, _, hli, _⟩ := hlq
             have hB2w := one_alloc hB2
             have hm : Holds w2 w.heap.size 54 #[.bool false, .string ⟨#[]⟩, .slice none 0 0] := below_holds hB2w hm1
             have hr3 := range3 hc0 hc1 hc2
             have HR3 : Hid (w2.rangeAt bk o [.bool b, .string ⟨s.toArray⟩, .slice a' i.len c']) := hr3
             rw [World.size_alloc] at hbk
             have HLI : Hid (Lies w2 (fun k => (w1.alloc (.cells #[.func (.func 43) #[] #[.pointer (some ⟨w1.heap.size, 0, none⟩)]] 72)).heap.size ≤ k ∧ k < w2.heap.size) i a') := hli
             clear hr3 hc0 hc1 hc2 hli)
          | (refine wpList_load_mid rfl 54 _ rfl bk o rfl _ _ HR3.out Try.underlying54 rfl infoItem3 ?_)
          | (refine wpList_storeH rfl 54 _ _ rfl w.heap.size #[.bool b, .string ⟨s.toArray⟩, .slice a' i.len c'] rfl rfl 54 _ hm infoItem3 rfl (item_one _ _ _ _ _) ?_
             intro w3 h3 o3 z3)
          | fail)
        refine bodyPost_ret (results_cellH2 (p := 2) (u := 3) rfl _ w3 w.heap.size 54 _ _ rfl h3 Try.underlying54 rfl infoItem3) rfl ⟨?_, ?_⟩
        · refine ⟨a', c', rfl, by omega, by omega, ?_⟩
          have h8 := hB1w.size
          refine (HLI.out.kept fun k hk => o3.block k hk.2 (by have := hk.1; rw [World.size_alloc] at this; omega)).mono fun k hk => ⟨by have := hk.1; rw [World.size_alloc] at this; omega, by rw [z3]; exact hk.2⟩
        · exact Only.fresh' (hB1w.trans (hB2w.mono hB1w.size)) o3 ⟨Nat.le_refl _, Nat.le_trans hB1w.size hB2w.size⟩
    · have hd : decode x.data.toList = none := things_split hsp ht
      have hne : (⟨t.toArray⟩ : ByteArray).toList.isEmpty = false := by rw [ByteArray.toList_mk]; cases t with
        | nil => exact absurd rfl ht
        | cons c r => rfl
      have hne2 : t.isEmpty = false := by cases t with
        | nil => exact absurd rfl ht
        | cons c r => rfl
      rw [hd]
      clear hd
      go_enter Try.func24, Try.ntmps24
      go_wp2_with (first
        | (go_at_call 42; refine (split_any x _ hxx).mono ?_; rintro e w1 ⟨rfl, hB1⟩; rw [hsp]; unfold splitV
           have hm : Holds w1 w.heap.size 54 #[.bool false, .string ⟨#[]⟩, .slice none 0 0] := below_holds hB1 (Holds.new w _ _)
           have hB1w := one_alloc hB1)
        | (refine wpList_storeH rfl 54 _ _ rfl w.heap.size #[.bool false, .string ⟨#[]⟩, .slice none 0 0] rfl rfl 54 _ hm infoItem3 rfl (item_one _ _ _ _ _) ?_
           intro w3 h3 o3 z3)
        | fail)
      refine bodyPost_ret (results_cellH2 (p := 2) (u := 3) rfl _ w3 w.heap.size 54 _ _ rfl h3 Try.underlying54 rfl infoItem3) rfl ⟨rfl, ?_⟩
      exact Only.fresh' hB1w o3 ⟨Nat.le_refl _, hB1w.size⟩
end Go.Proofs.Ytadpopjhhanapaa
