/-
  What the calls of split and Read do.
-/
import Derived.Test.YtamijfdhaahalaaDoorSAcctW
import Derived.Test.YtamijfdhaahalaaDoorRLaws
namespace Go.Proofs.YtamijfdhaahalaaDoor
open Go Go.RowKit

/-- So many texts of a row, and what stands behind them. -/
def texts : Nat → List UInt8 → Option (List (List UInt8) × List UInt8)
  | 0, r => some ([], r)
  | k + 1, r => match split r with
    | some (p, false, t) => (texts k t).map fun q => (p :: q.1, q.2)
    | _ => none
/-- The four texts of a list. -/
def quad (l : List UInt8) : Option (List (List UInt8)) := match split l with
  | some (row, true, []) => (match texts 4 row with
    | some (ps, []) => some ps
    | _ => none)
  | _ => none
def partsA (f : Nat → ByteArray) : Array Value := #[.string (f 0), .string (f 1), .string (f 2), .string (f 3)]
def pre4 (f : Nat → ByteArray) (i : Nat) : List (List UInt8) := (List.range i).map fun j => (f j).data.toList
theorem pre4_len (f : Nat → ByteArray) (i : Nat) : (pre4 f i).length = i := by simp [pre4]
theorem pre4_step (f : Nat → ByteArray) (i : Nat) (x : ByteArray) : pre4 (fun j => if j = i then x else f j) (i + 1) = pre4 f i ++ [x.data.toList] := by
  unfold pre4
  rw [List.range_succ, List.map_append]
  congr 1
  · exact List.map_congr_left fun j hj => by
      have : j < i := List.mem_range.1 hj
      show (if j = i then x else f j).data.toList = _
      rw [if_neg (by omega)]
  · simp
theorem partsA_set (f : Nat → ByteArray) (i : Nat) (x : ByteArray) (h : i < 4) : (partsA f).setIfInBounds i (.string x) = partsA (fun j => if j = i then x else f j) := by
  match i, h with
  | 0, _ => rfl
  | 1, _ => rfl
  | 2, _ => rfl
  | 3, _ => rfl
theorem partsA_one (f : Nat → ByteArray) : (partsA f).all (·.oneCell') = true := by simp [partsA, Value.oneCell']
theorem infoFour : (Tryd.prog.info? 57).map (·.size) = some 4 := by kernel_rfl
theorem underFour : Tryd.prog.underlying 57 = some (.array 4 9) := by kernel_rfl
theorem results_two {P : Program} {fn : Func} {p u : Tmp} {ty : TypeId} (h : fn.results = #[.cell p ty, .tmp u]) (tmps : Array Value) (w : World) (b : Nat) (t : TypeId) (cs : Array Value) (d : TypeDesc)
    (hp : tmps.getD p undef = .pointer (some ⟨b, 0, none⟩)) (hh : Holds w b t cs)
    (hu : P.underlying ty = some d) (hd : d.isRow = true) (hi : (P.info? ty).map (·.size) = some cs.size) : (results fn tmps).run P w = .ok (.tuple #[.agg cs, tmps.getD u undef]) w := by
  have hr := run_loadVar_row w b t ty cs (0, 0) d hh hu (by cases d <;> simp_all) hi
  rw [results_cell_tmp h, hp]
  simp [asAddr, hr]
def SplitAns (l : List UInt8) (e : Ending) : Prop := ∃ f : Nat → ByteArray, e = .returned (.tuple #[.agg (partsA f), .bool (quad l).isSome]) ∧ ∀ ps, quad l = some ps → ps = pre4 f 4
theorem texts_none {k : Nat} {r : List UInt8} (h : split r = none) : texts (k + 1) r = none := by rw [texts, h]
theorem texts_list {k : Nat} {r p t : List UInt8} (h : split r = some (p, true, t)) : texts (k + 1) r = none := by rw [texts, h]
theorem texts_text {k : Nat} {r p t : List UInt8} (h : split r = some (p, false, t)) : texts (k + 1) r = (texts k t).map fun q => (p :: q.1, q.2) := by rw [texts, h]
theorem alloc2 {w w' : World} {o o2 : Obj} (h : Below ((w.alloc o).alloc o2).heap.size ((w.alloc o).alloc o2) w') : Below w.heap.size w w' :=
  (((Below.refl _ _).alloc (Nat.le_refl _) o).alloc (by rw [World.size_alloc]; omega) o2).trans (h.mono (by rw [World.size_alloc, World.size_alloc]; omega))

set_option maxRecDepth 8000 in
set_option maxHeartbeats 4000000 in
theorem ssplit_any (x : ByteArray) (w : World) (hx : x.size < 4611686018427387904) :
    Calls Tryd.prog 43 #[.string x] w fun e w' => SplitAns x.data.toList e ∧ Below w.heap.size w w' := by
  obtain ⟨A, hA⟩ : ∃ A, SplitAns x.data.toList = A := ⟨_, rfl⟩
  rw [hA]
  have HA : Hid (SplitAns x.data.toList = A) := hA
  clear hA
  have hz0 : (#[.string ⟨#[]⟩, .string ⟨#[]⟩, .string ⟨#[]⟩, .string ⟨#[]⟩] : Array Value) = partsA (fun _ => ⟨#[]⟩) := rfl
  obtain ⟨g, hg⟩ : ∃ g, g = w.heap.size := ⟨_, rfl⟩
  have hH1 := ((Holds.new w 57 (partsA fun _ => ⟨#[]⟩)).alloc (.cells (partsA fun _ => ⟨#[]⟩) 57))
  have hH2 := (Holds.new (w.alloc (.cells (partsA fun _ => ⟨#[]⟩) 57)) 57 (partsA fun _ => ⟨#[]⟩))
  rw [World.size_alloc] at hH2
  rw [← hg] at hH1 hH2
  have HH : Hid (Holds _ g 57 _ ∧ Holds _ (g + 1) 57 _) := ⟨hH1, hH2⟩
  have HG : Hid (g = w.heap.size) := hg
  have hgl : w.heap.size ≤ g := by omega
  clear hH1 hH2 hg
  have hq3 : split x.data.toList = none ∨ (∃ p t, split x.data.toList = some (p, false, t)) ∨ (∃ p t, split x.data.toList = some (p, true, t) ∧ t ≠ []) ∨ ∃ p, split x.data.toList = some (p, true, []) := by
    cases h : split x.data.toList with
    | none => exact .inl rfl
    | some q =>
      obtain ⟨p, b, t⟩ := q
      cases b with
      | false => exact .inr (.inl ⟨p, t, rfl⟩)
      | true => cases t with
        | nil => exact .inr (.inr (.inr ⟨p, rfl⟩))
        | cons c t => exact .inr (.inr (.inl ⟨p, c :: t, rfl, by simp⟩))
  rcases hq3 with hsp | ⟨p, t, hsp⟩ | ⟨p, t, hsp, ht⟩ | ⟨p, hsp⟩
  · have HQ : Hid (quad x.data.toList = none) := by unfold Hid quad; rw [hsp]
    go_enter Tryd.func43, Tryd.ntmps43
    go_wp2_with fail
    rw [← HG.out]
    refine (split_any x _ hx).mono ?_
    rintro e w1 ⟨rfl, hB1⟩
    rw [hsp]
    unfold splitV
    have h1 := below_holds hB1 HH.out.1
    have h2 := below_holds hB1 HH.out.2
    have HB1 : Hid (Below w.heap.size w w1) := alloc2 hB1
    clear hB1
    go_wp2_with (first
      | (refine wpList_loadH rfl 57 _ rfl (g + 1) rfl 57 _ _ h2 underFour rfl infoFour ?_)
      | (refine wpList_storeH rfl 57 _ _ rfl g (partsA fun _ => ⟨#[]⟩) rfl rfl 57 _ h1 infoFour rfl (partsA_one _) ?_
         intro w3 h3 o3 z3)
      | fail)
    refine bodyPost_ret (results_two (p := 2) (u := 3) rfl _ w3 g 57 _ _ rfl h3 underFour rfl infoFour) rfl ⟨?_, ?_⟩
    · rw [← HA.out]
      refine ⟨fun _ => ⟨#[]⟩, ?_, fun ps h => by rw [HQ.out] at h; cases h⟩
      rw [HQ.out]
      rfl
    · exact Only.fresh HB1.out o3 (by omega)
  · have HQ : Hid (quad x.data.toList = none) := by unfold Hid quad; rw [hsp]
    go_enter Tryd.func43, Tryd.ntmps43
    go_wp2_with fail
    rw [← HG.out]
    refine (split_any x _ hx).mono ?_
    rintro e w1 ⟨rfl, hB1⟩
    rw [hsp]
    unfold splitV
    have h1 := below_holds hB1 HH.out.1
    have h2 := below_holds hB1 HH.out.2
    have HB1 : Hid (Below w.heap.size w w1) := alloc2 hB1
    clear hB1
    go_wp2_with (first
      | (refine wpList_loadH rfl 57 _ rfl (g + 1) rfl 57 _ _ h2 underFour rfl infoFour ?_)
      | (refine wpList_storeH rfl 57 _ _ rfl g (partsA fun _ => ⟨#[]⟩) rfl rfl 57 _ h1 infoFour rfl (partsA_one _) ?_
         intro w3 h3 o3 z3)
      | fail)
    refine bodyPost_ret (results_two (p := 2) (u := 3) rfl _ w3 g 57 _ _ rfl h3 underFour rfl infoFour) rfl ⟨?_, ?_⟩
    · rw [← HA.out]
      refine ⟨fun _ => ⟨#[]⟩, ?_, fun ps h => by rw [HQ.out] at h; cases h⟩
      rw [HQ.out]
      rfl
    · exact Only.fresh HB1.out o3 (by omega)
  · have HQ : Hid (quad x.data.toList = none) := by
      unfold Hid quad; rw [hsp]
      cases t with
      | nil => exact absurd rfl ht
      | cons c t => rfl
    have hne : (⟨t.toArray⟩ : ByteArray).toList.isEmpty = false := by rw [ByteArray.toList_mk]; cases t with
      | nil => exact absurd rfl ht
      | cons c r => rfl
    have hne2 : t.isEmpty = false := by cases t with
      | nil => exact absurd rfl ht
      | cons c r => rfl
    clear ht
    go_enter Tryd.func43, Tryd.ntmps43
    go_wp2_with fail
    rw [← HG.out]
    refine (split_any x _ hx).mono ?_
    rintro e w1 ⟨rfl, hB1⟩
    rw [hsp]
    unfold splitV
    have h1 := below_holds hB1 HH.out.1
    have h2 := below_holds hB1 HH.out.2
    have HB1 : Hid (Below w.heap.size w w1) := alloc2 hB1
    clear hB1
    go_wp2_with (first
      | (refine wpList_loadH rfl 57 _ rfl (g + 1) rfl 57 _ _ h2 underFour rfl infoFour ?_)
      | (refine wpList_storeH rfl 57 _ _ rfl g (partsA fun _ => ⟨#[]⟩) rfl rfl 57 _ h1 infoFour rfl (partsA_one _) ?_
         intro w3 h3 o3 z3)
      | fail)
    refine bodyPost_ret (results_two (p := 2) (u := 3) rfl _ w3 g 57 _ _ rfl h3 underFour rfl infoFour) rfl ⟨?_, ?_⟩
    · rw [← HA.out]
      refine ⟨fun _ => ⟨#[]⟩, ?_, fun ps h => by rw [HQ.out] at h; cases h⟩
      rw [HQ.out]
      rfl
    · exact Only.fresh HB1.out o3 (by omega)
  · have HQ : Hid (quad x.data.toList = match texts 4 p with | some (ps, []) => some ps | _ => none) := by unfold Hid quad; rw [hsp]
    have hpl := (split_len hsp).1
    rw [sizeB] at hpl
    go_enter Tryd.func43, Tryd.ntmps43
    go_wp2_with fail
    rw [← HG.out]
    refine (split_any x _ hx).mono ?_
    rintro e w1 ⟨rfl, hB1⟩
    rw [hsp]
    unfold splitV
    have h1 := below_holds hB1 HH.out.1
    have h2 := below_holds hB1 HH.out.2
    have HB1 : Hid (Below w.heap.size w w1) := alloc2 hB1
    clear hB1
    go_wp2_with fail
    obtain ⟨r0, hr0⟩ : ∃ r0 : ByteArray, r0 = ⟨p.toArray⟩ := ⟨_, rfl⟩
    have hrs : r0.size ≤ x.size := by rw [hr0]; show p.toArray.size ≤ _; simp; omega
    have hrp : p = r0.data.toList := by rw [hr0]
    rw [← hr0]
    clear hr0
    have hw1 : g + 1 < w1.heap.size := h2.lt
    go_loopw [5, 32] (fun sv z wr => ∃ (i : Nat) (f : Nat → ByteArray) (r : ByteArray), i ≤ 4 ∧ z = .int .i64 i ∧ sv = .string r ∧ r.size ≤ x.size ∧ Below w.heap.size w wr ∧ Holds wr g 57 (partsA fun _ => ⟨#[]⟩) ∧ Holds wr (g + 1) 57 (partsA f) ∧ texts 4 p = (texts (4 - i) r.data.toList).map fun q => (pre4 f i ++ q.1, q.2)) (fun _ z _ => 4 - (intOf z).toNat)
    case atStart =>
      refine ⟨0, _, r0, by omega, rfl, rfl, hrs, HB1.out, h1, h2, ?_⟩
      rw [hrp]
      cases texts (4 - 0) r0.data.toList <;> rfl
    case round =>
      obtain ⟨i, f, r, hi, rfl, rfl, hrx, hB, g1, g2, htx⟩ := hrel
      clear h1 h2 HB1 hrp hrs hw1 hsp hpl
      have hrr : r.size < 4611686018427387904 := by omega
      by_cases hlt : i < 4
      · have hii : (i : Int) < 4 := by omega
        have hi0 : (0 : Int) ≤ i := by omega
        rw [show 4 - i = (3 - i) + 1 by omega] at htx
        have hq4 : split r.data.toList = none ∨ (∃ p t, split r.data.toList = some (p, true, t)) ∨ ∃ p t, split r.data.toList = some (p, false, t) := by
          cases h : split r.data.toList with
          | none => exact .inl rfl
          | some q =>
            obtain ⟨p, b, t⟩ := q
            cases b with
            | false => exact .inr (.inr ⟨p, t, rfl⟩)
            | true => exact .inr (.inl ⟨p, t, rfl⟩)
        have HB : Hid (Below w.heap.size w wr) := hB
        have G1 : Hid (Holds wr g 57 (partsA fun _ => ⟨#[]⟩)) := g1
        have G2 : Hid (Holds wr (g + 1) 57 (partsA f)) := g2
        clear hB g1 g2
        rcases hq4 with hs2 | ⟨p2, t2, hs2⟩ | ⟨p2, t2, hs2⟩
        · rw [texts_none hs2] at htx
          have HQ2 : Hid (quad x.data.toList = none) := by unfold Hid; rw [HQ.out, htx]; rfl
          clear htx HQ
          have HQ : Hid (quad x.data.toList = none) := HQ2
          clear HQ2
          go_wp2_with fail
          refine (split_any r _ hrr).mono ?_
          rintro e w2 ⟨rfl, hB2⟩
          rw [hs2]
          unfold splitV
          have h1 := below_holds hB2 G1.out
          have h2 := below_holds hB2 G2.out
          have HB2 : Hid (Below w.heap.size w w2) := HB.out.trans (hB2.mono HB.out.size)
          clear hB2
          go_wp2_with (first
            | (refine wpList_loadH rfl 57 _ rfl (g + 1) rfl 57 _ _ h2 underFour rfl infoFour ?_)
            | (refine wpList_storeH rfl 57 _ _ rfl g (partsA f) rfl rfl 57 _ h1 infoFour rfl (partsA_one _) ?_
               intro w3 h3 o3 z3)
            | fail)
          refine bodyPost_ret (results_two (p := 2) (u := 3) rfl _ w3 g 57 _ _ rfl h3 underFour rfl infoFour) rfl ⟨?_, ?_⟩
          · rw [← HA.out]
            refine ⟨f, ?_, fun ps h => by rw [HQ.out] at h; cases h⟩
            rw [HQ.out]
            rfl
          · exact Only.fresh HB2.out o3 (by omega)
        · rw [texts_list hs2] at htx
          have HQ2 : Hid (quad x.data.toList = none) := by unfold Hid; rw [HQ.out, htx]; rfl
          clear htx HQ
          have HQ : Hid (quad x.data.toList = none) := HQ2
          clear HQ2
          go_wp2_with fail
          refine (split_any r _ hrr).mono ?_
          rintro e w2 ⟨rfl, hB2⟩
          rw [hs2]
          unfold splitV
          have h1 := below_holds hB2 G1.out
          have h2 := below_holds hB2 G2.out
          have HB2 : Hid (Below w.heap.size w w2) := HB.out.trans (hB2.mono HB.out.size)
          clear hB2
          go_wp2_with (first
            | (refine wpList_loadH rfl 57 _ rfl (g + 1) rfl 57 _ _ h2 underFour rfl infoFour ?_)
            | (refine wpList_storeH rfl 57 _ _ rfl g (partsA f) rfl rfl 57 _ h1 infoFour rfl (partsA_one _) ?_
               intro w3 h3 o3 z3)
            | fail)
          refine bodyPost_ret (results_two (p := 2) (u := 3) rfl _ w3 g 57 _ _ rfl h3 underFour rfl infoFour) rfl ⟨?_, ?_⟩
          · rw [← HA.out]
            refine ⟨f, ?_, fun ps h => by rw [HQ.out] at h; cases h⟩
            rw [HQ.out]
            rfl
          · exact Only.fresh HB2.out o3 (by omega)
        · rw [texts_text hs2] at htx
          have hl2 := (split_len hs2).1
          rw [sizeB] at hl2
          have HTX : Hid (texts 4 p = ((texts (3 - i) t2).map fun q => (p2 :: q.1, q.2)).map fun q => (pre4 f i ++ q.1, q.2)) := htx
          clear htx
          go_wp2_with fail
          refine (split_any r _ hrr).mono ?_
          rintro e w2 ⟨rfl, hB2⟩
          rw [hs2]
          unfold splitV
          have h1 := below_holds hB2 G1.out
          have h2 := below_holds hB2 G2.out
          have HB2 : Hid (Below w.heap.size w w2) := HB.out.trans (hB2.mono HB.out.size)
          clear hB2
          have hc : w2.cell? ⟨g + 1, i, none⟩ = some (.string (f i)) := by
            rw [h2.cell]
            match i, hlt with
            | 0, _ => rfl
            | 1, _ => rfl
            | 2, _ => rfl
            | 3, _ => rfl
          have hf := h2.frozen i
          have H1 : Hid (Holds w2 g 57 (partsA fun _ => ⟨#[]⟩)) := h1
          have H2 : Hid (Holds w2 (g + 1) 57 (partsA f)) := h2
          clear h1 h2
          go_wp2_with fail
          go_roundw
          case rel =>
            refine ⟨i + 1, fun j => if j = i then ⟨p2.toArray⟩ else f j, ⟨t2.toArray⟩, by omega, rfl, rfl, by show t2.toArray.size ≤ _; simp; omega, HB2.out.setCell (by show _ ≤ g + 1; omega) _, H1.out.other _ _ (by show g ≠ g + 1; omega), (H2.out.set i _).congr (partsA_set f i _ hlt), ?_⟩
            rw [HTX.out, pre4_step, show 4 - (i + 1) = 3 - i by omega]
            show _ = (texts (3 - i) t2).map _
            cases texts (3 - i) t2 with
            | none => rfl
            | some q => simp
          case measure => simp [intOf]; omega
      · have hii : ¬ (i : Int) < 4 := by omega
        have hik : i = 4 := by omega
        subst hik
        rw [show 4 - 4 = 0 from rfl, texts] at htx
        have hqe : quad x.data.toList = if r.size = 0 then some (pre4 f 4) else none := by
          rw [HQ.out, htx]
          simp only [Option.map_some, List.append_nil]
          by_cases e : r.size = 0
          · rw [if_pos e, List.eq_nil_of_length_eq_zero (show r.data.toList.length = 0 by rw [sizeB]; exact e)]
          · rw [if_neg e]
            cases h : r.data.toList with
            | nil => exact absurd (by rw [← sizeB, h]; rfl) e
            | cons c l => rfl
        have hem : r.toList.isEmpty = decide (r.size = 0) := by
          by_cases e : r.size = 0
          · rw [isEmpty0 r e, decide_eq_true e]
          · rw [notEmpty r e, decide_eq_false e]
        obtain ⟨d, hd⟩ : ∃ d, d = decide (r.size = 0) := ⟨_, rfl⟩
        rw [← hd] at hem
        have HD : Hid (d = decide (r.size = 0)) := hd
        clear hd
        have HQE : Hid (quad x.data.toList = if r.size = 0 then some (pre4 f 4) else none) := hqe
        clear HQ htx hqe
        go_wp2_with (first
          | (refine wpList_loadH rfl 57 _ rfl (g + 1) rfl 57 _ _ g2 underFour rfl infoFour ?_)
          | (refine wpList_storeH rfl 57 _ _ rfl g (partsA f) rfl rfl 57 _ g1 infoFour rfl (partsA_one _) ?_
             intro w3 h3 o3 z3)
          | fail)
        refine bodyPost_ret (results_two (p := 2) (u := 3) rfl _ w3 g 57 _ _ rfl h3 underFour rfl infoFour) rfl ⟨?_, ?_⟩
        · rw [← HA.out]
          by_cases e : r.size = 0
          · refine ⟨f, ?_, fun ps h => ?_⟩
            · rw [HQE.out, if_pos e]
              show Ending.returned (.tuple #[.agg (partsA f), .bool d]) = _
              rw [HD.out, decide_eq_true e]
              rfl
            · rw [HQE.out, if_pos e] at h
              exact (Option.some.inj h).symm
          · refine ⟨f, ?_, fun ps h => ?_⟩
            · rw [HQE.out, if_neg e]
              show Ending.returned (.tuple #[.agg (partsA f), .bool d]) = _
              rw [HD.out, decide_eq_false e]
              rfl
            · rw [HQE.out, if_neg e] at h
              cases h
        · exact Only.fresh hB o3 (by omega)
end Go.Proofs.YtamijfdhaahalaaDoor
