/-
  What parts does: its walk.
-/
import Derived.Test.YtbenfmhcpipehaaBBuild
import Derived.Shelf.SlSortCmp.NoneTotal
namespace Go.Proofs.Ytbenfmhcpipehaa
open Go Go.RowKit Go.Maps Go.Shelf

theorem eq_of_rising : ∀ {l m : List Nat}, l.Pairwise (· < ·) → m.Pairwise (· < ·) → (∀ x, x ∈ l ↔ x ∈ m) → l = m
  | [], [], _, _, _ => rfl
  | [], b :: s, _, _, h => by have := (h b).2 (by simp); simp at this
  | a :: r, [], _, _, h => by have := (h a).1 (by simp); simp at this
  | a :: r, b :: s, h1, h2, h => by
    obtain ⟨a1, a2⟩ := List.pairwise_cons.1 h1
    obtain ⟨b1, b2⟩ := List.pairwise_cons.1 h2
    have hab : a = b := by
      rcases List.mem_cons.1 ((h a).1 (by simp)) with e | ha
      · exact e
      · rcases List.mem_cons.1 ((h b).2 (by simp)) with e | hb
        · exact e.symm
        · have := a1 b hb; have := b1 a ha; omega
    subst hab
    rw [eq_of_rising a2 b2 (fun p => ⟨fun hp => by
      rcases List.mem_cons.1 ((h p).1 (by simp [hp])) with e | hp'
      · have := a1 p hp; omega
      · exact hp', fun hp => by
      rcases List.mem_cons.1 ((h p).2 (by simp [hp])) with e | hp'
      · have := b1 p hp; omega
      · exact hp'⟩)]

theorem uppers_rises (M : Nat → Bool) (f : Nat) : (uppers M f).Pairwise (· < ·) := List.Pairwise.filter _ List.pairwise_lt_range
theorem mem_uppers {M : Nat → Bool} {f u : Nat} : u ∈ uppers M f ↔ u < NU ∧ f ≤ u ∧ liveU M u := by
  unfold uppers
  rw [List.mem_filter, List.mem_range, Bool.and_eq_true, liveB_iff]
  simp
theorem uppers_len (M : Nat → Bool) (f : Nat) : (uppers M f).length ≤ 8388608 := by
  unfold uppers
  refine Nat.le_trans (List.length_filter_le _ _) ?_
  rw [List.length_range, NU_eq]
  exact Nat.le_refl _

/-- A row that has been sorted. -/
theorem sorted_eq {us : List Nat} {d' : Array Nat} {M : Nat → Bool} {f : Nat} (hp : Go.Sort.PermIn 0 us.length us.toArray d') (hs : Go.Sort.SortedIn (ltOf cmpU) 0 us.length d') (hn : us.Nodup) (hm : ∀ u, u ∈ us ↔ u ∈ uppers M f) : d'.toList = uppers M f := by
  obtain ⟨h1, _, h2⟩ := hp
  have hz : d'.size = us.length := by simpa using h1
  have hperm : d'.toList.Perm us := by
    have e1 : d'.extract 0 us.length = d' := by rw [← hz]; simp
    have e2 : us.toArray.extract 0 us.length = us.toArray := by simp
    rw [e1, e2] at h2
    simpa using h2
  refine eq_of_rising ?_ (uppers_rises M f) (fun x => by rw [hperm.mem_iff, hm])
  rw [List.pairwise_iff_getElem]
  intro i j hi hj hij
  have hi' : i < d'.size := by simpa using hi
  have hj' : j < d'.size := by simpa using hj
  have h3 := hs i j (Nat.zero_le _) hij (by omega)
  rw [ltU, getElem!_pos d' j hj', getElem!_pos d' i hi'] at h3
  have h4 : d'.toList[i] ≠ d'.toList[j] := by
    intro e
    have := (hperm.nodup_iff.2 hn)
    rw [List.nodup_iff_pairwise_ne, List.pairwise_iff_getElem] at this
    exact this i j hi hj hij e
  simp at h3 h4 ⊢
  omega

/-- A slice of parts. -/
def PartsAt (w : World) (v : Value) (M : Nat → Bool) (us : List Nat) : Prop := (v = .slice none 0 0 ∧ us = []) ∨ ∃ g cap, v = .slice (some ⟨g, 0, none⟩) us.length cap ∧ g < w.heap.size ∧ PartsIn w g M us

theorem infoP : (Try.prog.info? 92).map (fun i => (i.zero, i.size, i.bytes)) = some (some (.agg #[.int .i64 0, .int .u8 0, .int .u8 0, .int .u8 0, .int .u8 0, .int .u8 0, .int .u8 0, .int .u8 0, .int .u8 0, .int .u8 0, .int .u8 0, .int .u8 0, .int .u8 0, .int .u8 0, .int .u8 0, .int .u8 0, .int .u8 0, .int .u8 0, .int .u8 0, .int .u8 0, .int .u8 0, .int .u8 0, .int .u8 0, .int .u8 0, .int .u8 0, .int .u8 0, .int .u8 0, .int .u8 0, .int .u8 0, .int .u8 0, .int .u8 0, .int .u8 0, .int .u8 0]), 33, 40) := by kernel_rfl
theorem underParts : Try.prog.underlying 89 = some (.slice 92) := by kernel_rfl

theorem row_not {W : World} {base n : Nat} {e : TypeId} {size : Nat} {v : Value} {xs : List Value} (h : W.ownsRow base e size v n xs) {k : Nat} {o : Obj} (ho : W.heap[k]? = some o) (hc : o.isCells = false) : some k ≠ v.ownBlock := by
  rcases h.2 with ⟨rfl, _⟩ | ⟨g, cap, cur, rfl, _, hcur, _⟩
  · intro e; cases e
  · intro e
    simp only [Value.ownBlock] at e
    injection e with e
    subst e
    rw [ho] at hcur
    injection hcur with hcur
    subst hcur
    cases hc
theorem RangV.objs {w : World} {r : Nat} {M lf : Nat → Bool} {cnt : Nat} {mo : Option Nat} (h : RangV w r M lf cnt mo) : (∃ o : Obj, w.heap[r]? = some o ∧ o.isCells = false) ∧ ∀ m, mo = some m → ∃ o : Obj, w.heap[m]? = some o ∧ o.isCells = false := by
  cases mo with
  | none => exact ⟨⟨_, h.1, rfl⟩, fun m e => by cases e⟩
  | some m =>
    obtain ⟨D, left, ⟨es, clock, since, seen, c0, hb, F, hs, hD, hr, rest⟩, hR, hl⟩ := h
    exact ⟨⟨_, hr, rfl⟩, fun m' e => by injection e with e; subst e; exact ⟨_, hb, rfl⟩⟩
/-- A range stays while a row of its own is written. -/
theorem RangV.grown {w w' : World} {r : Nat} {M lf : Nat → Bool} {cnt : Nat} {mo : Option Nat} (h : RangV w r M lf cnt mo) {base n : Nat} {e : TypeId} {size : Nat} {v : Value} {xs : List Value} (hrow : w.ownsRow base e size v n xs) (hg : w.grownBy w' v.ownBlock) : RangV w' r M lf cnt mo := by
  obtain ⟨⟨o, h1, h2⟩, h3⟩ := h.objs
  refine h.block (hg.block r h.lt (row_not hrow h1 h2)) (fun m hm => ?_)
  obtain ⟨o, h4, h5⟩ := h3 m hm
  exact hg.block m (h.map.lt m hm) (row_not hrow h4 h5)
theorem ownsRow_only {w w' : World} {base b size n : Nat} {e : TypeId} {v : Value} {xs : List Value} (h : w.ownsRow base e size v n xs) (k : Only b w w') (hb : some b ≠ v.ownBlock) : w'.ownsRow base e size v n xs :=
  h.kept (row := some b) ⟨k.os, k.tape, k.output, k.size, fun i hi hne => k.block i hi fun q => hne (by rw [q])⟩ (.inr fun e => hb e.symm)

theorem part_cells (W : World) (u : Nat) (cs : Array Value) : ∀ j v, (Value.int .i64 (u : Nat) :: cs.toList)[j]? = some v → (W.alloc (.cells (partA u cs) 92)).cell? ((⟨W.heap.size, 0, none⟩ : Addr).add j) = some v := by
  intro j v hv
  rw [add_plain, Nat.zero_add, (Holds.new W 92 (partA u cs)).cell j]
  unfold partA
  rw [List.getElem?_toArray]
  exact hv

theorem sorted_holds {W : World} {M : Nat → Bool} {g n : Nat} {us : List Nat} {d : Array Nat} {os : Array Obj} (h : Go.Sort.HoldsK (encP M) 33 W g 0 us.toArray) (hg : g < W.heap.size) (hd : d.size = us.length) : PartsIn (sortWorldK (encP M) 33 W g 0 n d os) g M d.toList := by
  refine partsIn_of (us := d.toList) ?_
  intro t ht
  have h1 := Go.Sort.holds_putRow id (Go.Sort.ahead W n) g 0 (Go.Sort.flatK (encP M) 33 us.toArray) (Go.Sort.flatK (encP M) 33 d) h (by simp [hd]) t (by simpa using ht)
  have hb : (sortWorldK (encP M) 33 W g 0 n d os).heap[g]? = (Go.Sort.putRow id (Go.Sort.ahead W n) g 0 (Go.Sort.flatK (encP M) 33 d)).heap[g]? := by
    unfold sortWorldK Go.Sort.grow Go.Sort.putRowK
    exact Array.getElem?_append_left (by simpa using hg)
  refine ⟨(World.cell?_of_block (a := ⟨g, 0 + t, none⟩) hb).trans ?_, (World.frozen?_of_block (a := ⟨g, 0 + t, none⟩) hb).trans h1.2⟩
  simpa using h1.1

set_option maxRecDepth 8000 in
theorem parts_any {w : World} {s : Value} {mo : Option Nat} {M : Nat → Bool} (h : View w s mo M) (f : Nat)
    :
    Calls Try.prog 55 #[s, .int .i64 (f : Nat)] w fun e w' => ∃ v, e = .returned v ∧ PartsAt w' v M (uppers M f) ∧ Below w.heap.size w w' ∧ ∀ k, v.ownBlock = some k → w.heap.size ≤ k := by
  have hh := held_any h
  have hnone : ∀ (W : World), Calls Try.prog 69 #[.slice none 0 0, .func (.func 70) #[] #[]] W fun e w' => e = .returned (.tuple #[]) ∧ w' = W := fun W => AnyF.slices_SortFunc_none Try.sortPart none 0 _ W
  obtain ⟨z0, i0, hi, hz0, hz1, hz2, hz3⟩ : ∃ (z0 : Value) (i0 : TypeInfo), Try.prog.info? 92 = some i0 ∧ i0.zero = some z0 ∧ i0.size = 33 ∧ i0.bytes = 40 ∧ z0.cells.size = 33 := by
    obtain ⟨i, a, b, c, d⟩ := info_parts infoP
    exact ⟨_, i, a, b, c, d, rfl⟩
  go_enter Try.func55, Try.ntmps55
  go_wp2_with (first
    | (go_at_call 41; refine hh.mono ?_; rintro e w1 ⟨rfl, rfl⟩)
    | (at_range; refine wpList_rangeV rfl _ rfl rfl h.map ?_; intro w0 cnt0 hrg0 hB0 hs0)
    | go_in)
  go_frame
  go_loopw [5, 6, 7] (fun v _ _ wr => ∃ (us : List Nat) (lf : Nat → Bool) (ct : Nat), (v = .slice none 0 0 ∧ us = [] ∨ ∃ g cap, v = .slice (some ⟨g, 0, none⟩) us.length cap) ∧ wr.ownsRow w1.heap.size 92 33 v us.length (us.flatMap (encP M)) ∧ RangV wr w1.heap.size M lf ct mo ∧ us.Nodup ∧ (∀ u, u ∈ us ↔ (f ≤ u ∧ liveU M u ∧ lf u = false)) ∧ Below w1.heap.size w1 wr) (fun _ _ _ wr => leftV wr w1.heap.size mo)
  case atStart =>
    refine ⟨[], _, _, .inl ⟨rfl, rfl⟩, World.ownsRow_nil _ _ _ _, hrg0, by simp, fun u => ?_, hB0⟩
    simp
    intro _ hl
    exact liveB_iff.2 hl
  case round =>
    obtain ⟨us, lf, ct, hv, hrow, hrg, hnd, hmem, hB⟩ := hrel
    go_wp2_with (first
      | (at_next; refine wpList_nextV rfl _ rfl rfl hrg ?_ ?_)
      | go_in)
    · intro hl0
      have hmu : ∀ u, u ∈ us ↔ u ∈ uppers M f := fun u => by
        rw [hmem, mem_uppers]
        refine ⟨fun ⟨a, b, _⟩ => ⟨liveU_lt h.map.bound b, a, b⟩, fun ⟨_, a, b⟩ => ⟨a, b, hl0 u⟩⟩
      have HM : Hid (∀ u, u ∈ us ↔ u ∈ uppers M f) := hmu
      have hul : us.length ≤ NU := nodup_len NU us hnd fun x hx => (mem_uppers.1 ((hmu x).1 hx)).1
      clear hmem hmu
      rcases hv with ⟨rfl, rfl⟩ | ⟨g, cap, rfl⟩
      · go_wp2_with (first
          | (go_at_call 69; refine (hnone _).mono ?_; rintro e w3 ⟨rfl, rfl⟩))
        refine bodyPost_ret (results_tmp rfl _ _ _) rfl ?_
        refine ⟨_, rfl, .inl ⟨rfl, ?_⟩, hB, fun k e => by cases e⟩
        exact List.eq_nil_iff_forall_not_mem.2 fun x hx => by have := (HM.out x).2 hx; simp at this
      · have hHK := holdsK_of hrow rfl
        have hgl := hrow.lt g rfl
        have hso := sort_any (cap := cap) hHK hgl.2 (by rw [NU_eq] at hul; omega)
        go_wp2_with (first
          | (go_at_call 69; refine hso.mono ?_; rintro e w3 ⟨rfl, d', n, os, hp, hs, rfl⟩))
        refine bodyPost_ret (results_tmp rfl _ _ _) rfl ?_
        have hd := sorted_eq hp hs hnd HM.out
        have hz : d'.size = us.length := by simpa using hp.1
        refine ⟨_, rfl, .inr ⟨g, cap, ?_, by have := hgl.2; simp [sortWorldK, Go.Sort.putRowK]; omega, ?_⟩, sorted_below hB hgl.1, fun k e => by simp [Value.ownBlock] at e; have := hgl.1; omega⟩
        · rw [← hd]; simp [hz]
        · rw [← hd]; exact sorted_holds hHK hgl.2 hz
    · intro u w2 ct2 hu hlv hlf hrg2 hlt hO hsz hen
      clear hsz
      have hC := IsC.mk (atU M u)
      have hE : encP M u = .int .i64 (u : Nat) :: (contA (atU M u)).toList := rfl
      generalize contA (atU M u) = cs at hen hC hE ⊢
      have HE : Hid (encP M u = .int .i64 (u : Nat) :: cs.toList) := hE
      have HM : Hid (∀ u, u ∈ us ↔ (f ≤ u ∧ liveU M u ∧ lf u = false)) := hmem
      clear hE hmem
      have hZ := IsC.mk fun _ => false
      obtain ⟨W3, hW⟩ : ∃ W3, World.alloc w2 (.cells (contA fun _ => false) 74) = W3 := ⟨_, rfl⟩
      have h1 : Holds W3 w2.heap.size 74 (contA fun _ => false) := by rw [← hW]; exact Holds.new _ _ _
      have hB3 : Below w2.heap.size w2 W3 := by rw [← hW]; exact below_new1 _ _
      rw [zeroC] at hW
      have hrow2 := ownsRow_only hrow hO (row_not hrow hrg.objs.1.choose_spec.1 hrg.objs.1.choose_spec.2)
      have hul : us.length ≤ 8388608 := by
        have := nodup_len NU us hnd fun x hx => liveU_lt h.map.bound ((HM.out x).1 hx).2.1
        rw [NU_eq] at this
        exact this
      have hsz2 : w1.heap.size ≤ w2.heap.size := Nat.le_trans hB.size hO.size
      have hB2 : Below w1.heap.size w1 w2 := Only.fresh hB hO (Nat.le_refl _)
      have hun : u ∉ us := fun q => by have := ((HM.out u).1 q).2.2; rw [hlf] at this; cases this
      by_cases hfu : f ≤ u
      · have hfi : (f : Int) ≤ u := by omega
        go_wp2_with (first
          | (refine wpList_stK rfl _ _ rfl rfl rfl h1 hC hZ ?_; intro W4 h2 hO4 hs4; clear hs4; have hB4 : Below w2.heap.size w2 W4 := Only.fresh hB3 hO4 (Nat.le_refl _); have hrow4 := ownsRow_below hB4 hrow2)
          | (refine wpList_ldK rfl _ rfl rfl h2 hC ?_)
          | (refine wpList_buildP rfl _ _ rfl rfl rfl hC ?_)
          | (refine wpList_rowP rfl _ rfl rfl hC ?_)
          | (at_builtin; refine wpList_append_own _ rfl _ _ 89 rfl w1.heap.size 92 i0 z0 33 40 underParts hi hz0 hz1 hz2 hz3 (by decide) _ us.length _ rfl (hrow4.alloc _) ⟨W4.heap.size, 0, none⟩ 1 1 (encP M u) rfl (encP_len M u) (by rw [HE.out]; exact part_cells W4 u cs) (encP_one M u) (by unfold maxLen; omega) (by omega) (by have := hB4.size; simp; omega) ?_; intro v' w5 hown' hgrow hnil))
        have hB5 : Below w1.heap.size w1 w5 := ((hB2.trans (hB4.mono hsz2)).alloc (by have := hB4.size; omega) _).grown hgrow (by have := hB4.size; simp; omega) (fun k e => (hrow4.lt k e).1)
        have hrg5 := ((hrg2.below hB4).below (below_new1 W4 (.cells (partA u cs) 92))).grown (hrow4.alloc _) hgrow
        go_roundw
        case rel =>
          refine ⟨us ++ [u], _, ct2, .inr ?_, ?_, hrg5, ?_, fun x => ?_, hB5⟩
          · obtain ⟨g', cap', rfl⟩ := ownsRow_succ hown'
            exact ⟨g', cap', by simp⟩
          · rw [List.flatMap_append, List.length_append]
            simpa using hown'
          · rw [List.nodup_append]
            exact ⟨hnd, by simp, fun a ha b hb => by simp at hb; subst hb; exact fun e => hun (e ▸ ha)⟩
          · rw [List.mem_append, HM.out]
            simp
            constructor
            · rintro (⟨a, b, c⟩ | rfl)
              · exact ⟨a, b, fun d => by rw [c] at d; cases d⟩
              · exact ⟨hfu, hlv, fun _ => rfl⟩
            · rintro ⟨a, b, c⟩
              by_cases e : x = u
              · exact .inr e
              · refine .inl ⟨a, b, ?_⟩
                cases hq : lf x
                · rfl
                · exact absurd (c hq) e
        case measure => rw [hrg5.left, hrg.left]; exact hlt
      · have hfi : ¬ (f : Int) ≤ u := by omega
        go_wp2_with (first
          | (refine wpList_stK rfl _ _ rfl rfl rfl h1 hC hZ ?_; intro W4 h2 hO4 hs4; clear hs4; have hB4 : Below w2.heap.size w2 W4 := Only.fresh hB3 hO4 (Nat.le_refl _); have hrow4 := ownsRow_below hB4 hrow2))
        have hrg5 := hrg2.below hB4
        go_roundw
        case rel =>
          refine ⟨us, _, ct2, hv, hrow4, hrg5, hnd, fun x => ?_, hB2.trans (hB4.mono hsz2)⟩
          rw [HM.out]
          simp
          intro ha hb
          constructor
          · intro c d; rw [c] at d; cases d
          · intro c
            cases hq : lf x
            · rfl
            · have := c hq; omega
        case measure => rw [hrg5.left, hrg.left]; exact hlt
end Go.Proofs.Ytbenfmhcpipehaa
