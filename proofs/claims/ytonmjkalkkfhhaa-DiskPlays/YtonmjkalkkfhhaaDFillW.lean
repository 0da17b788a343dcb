/-
  What fill, New and Clear do.
-/
import Derived.Test.YtonmjkalkkfhhaaDReadW
import Derived.Deep.OwnRows
import Derived.Lib.BufferRead
namespace Go.Proofs.Ytonmjkalkkfhhaa
open Go Go.RowKit Go.Maps

theorem underBytes : Try.prog.underlying 48 = some (.slice 5) := Try.underlying48
theorem info5 : ∃ i, Try.prog.info? 5 = some i ∧ i.zero = some (.int .u8 0) ∧ i.size = 1 ∧ i.bytes = 1 := by
  have h : (Try.prog.info? 5).map (fun i => (i.zero, i.size, i.bytes)) = some (some (.int .u8 0), 1, 1) := by kernel_rfl
  cases hi : Try.prog.info? 5 with
  | none => rw [hi] at h; cases h
  | some i =>
    rw [hi] at h
    simp only [Option.map_some, Option.some.injEq, Prod.mk.injEq] at h
    exact ⟨i, rfl, h⟩
theorem add_plain (b o j : Nat) : (⟨b, o, none⟩ : Addr).add j = ⟨b, o + j, none⟩ := by rw [Addr.add_mid]
theorem convert_row {w : World} {b cap : Nat} {l : List UInt8} (h : w.rowIs b 5 l.length (fun j => .int .u8 ((l.getD j 0).toNat : Int))) :
    (convert 48 9 (.slice (some ⟨b, 0, none⟩) l.length cap)).run Try.prog w = .ok (.string ⟨l.toArray⟩) w :=
  run_convert_bytes_back w 48 9 5 ⟨b, 0, none⟩ cap l underBytes (by kernel_rfl) (by kernel_rfl) (fun j hj => by
    have := h.cell hj
    rw [add_plain, Nat.zero_add, this, List.getD_eq_getElem?_getD, List.getElem?_eq_getElem hj]
    rfl)

set_option maxRecDepth 8000 in
set_option maxHeartbeats 1000000 in
theorem fill_any (c : UInt8) (w : World) :
    Calls Try.prog 29 #[.int .u8 (c.toNat : Nat)] w fun e w' => e = .returned (.string (fillOf 1024 c)) ∧ Below w.heap.size w w' := by
  have hmk : ∀ w, (Instr.makeSlice 48 (.int .i64 1024) (.int .i64 1024)).run Try.prog w = .ok (.slice (some ⟨w.heap.size, 0, none⟩) 1024 1024) (w.alloc (.cells (madeCells #[.int .u8 0] 1024) 5)) := run_make_row' (P := Try.prog) 48 5 (.int .u8 0) 1 underBytes (by kernel_rfl) rfl .i64 .i64 1024 (by omega) (by omega)
  have hr0 := World.rowIs_made w (.int .u8 0) 1024 5
  have hB0 := below_new1 w (.cells (madeCells #[.int .u8 0] 1024) 5)
  obtain ⟨W0, hW0⟩ : ∃ W, w.alloc (.cells (madeCells #[.int .u8 0] 1024) 5) = W := ⟨_, rfl⟩
  have hmk0 := hmk w
  rw [hW0] at hr0 hB0 hmk0
  clear hmk hW0
  obtain ⟨g, hg⟩ : ∃ g, g = w.heap.size := ⟨_, rfl⟩
  rw [← hg] at hmk0 hr0
  have HG : Hid (w.heap.size ≤ g) := by show _ ≤ _; omega
  clear hg
  obtain ⟨n, hn⟩ : ∃ n : Nat, n = c.toNat := ⟨_, rfl⟩
  have hn2 : n < 256 := by rw [hn]; exact c.toNat_lt
  have HN : Hid (n = c.toNat) := hn
  rw [← hn]
  clear hn
  go_enter Try.func29, Try.ntmps29
  go_wp2_with fail
  go_loopw [4] (fun z wr => ∃ i : Nat, i ≤ 1024 ∧ z = .int .i64 (i : Nat) ∧ Below w.heap.size w wr ∧ wr.rowIs g 5 1024 (fun j => if j < i then .int .u8 (n : Nat) else .int .u8 0)) (fun z _ => 1024 - (intOf z).toNat)
  case atStart => exact ⟨0, by omega, rfl, hB0, hr0.congr fun i hi => by simp⟩
  case round =>
    obtain ⟨i, hi, rfl, hB, hr⟩ := hrel
    by_cases hlt : i < 1024
    · have hii : (i : Int) < 1024 := by omega
      have hi0 : (0 : Int) ≤ i := by omega
      have hci : wr.cell? ⟨g, i, none⟩ = some (.int .u8 0) := by have := hr.cell (i := i) hlt; rwa [if_neg (by omega)] at this
      have hfi := hr.frozen i
      have HR2 : Hid (wr.rowIs g 5 1024 (fun j => if j < i then .int .u8 (n : Nat) else .int .u8 0)) := hr
      clear hr
      go_wp2_with fail
      go_roundw
      case rel =>
        refine ⟨i + 1, by omega, rfl, hB.setCell (by have := HG.out; show _ ≤ g; omega) _, ?_⟩
        refine (HR2.out.set i _).congr fun j hj => ?_
        by_cases e : j = i
        · subst e
          rw [if_pos rfl, if_pos (by omega)]
        · rw [if_neg e]
          by_cases q1 : j < i
          · rw [if_pos q1, if_pos (by omega)]
          · rw [if_neg q1, if_neg (by omega)]
      case measure => simp [intOf]; omega
    · have hii : ¬ (i : Int) < 1024 := by omega
      have hcv := convert_row (l := List.replicate 1024 c) (cap := 1024) (w := wr) (b := g) (by
        rw [List.length_replicate]
        refine hr.congr fun j hj => ?_
        rw [if_pos (by omega), List.getD_eq_getElem?_getD, List.getElem?_replicate, if_pos hj, HN.out]
        rfl)
      rw [List.length_replicate] at hcv
      change _ = Result.ok (Value.string (fillOf 1024 c)) wr at hcv
      clear hr
      go_wp2_with fail
      go_ret
      exact ⟨rfl, hB⟩

/-- A device of no pages. -/
def Dev.none : Dev := { size := 0, pages := fun _ => Option.none, writes := [], ops := 0, off := false, armed := false, left := 0, fails := fun _ => Option.none, count := 0 }
def Dev.new (n : Int) : Dev := { Dev.none with size := keptP n }
theorem Dev.none_ok (N : Nat) : Dev.none.ok N := ⟨⟨by decide, by decide⟩, fun u x h => (by cases h), fun u x h => (by cases h), fun p h => (by cases h), Nat.zero_le _, ⟨by decide, by show (0 : Int) ≤ N; omega⟩, ⟨by decide, by decide⟩, ⟨by decide, by show (0 : Int) ≤ N; omega⟩⟩
theorem Dev.new_ok (n : Int) (N : Nat) : (Dev.new n).ok N :=
  ⟨by unfold Dev.new keptP; dsimp only; omega, (Dev.none_ok N).keys, (Dev.none_ok N).texts, (Dev.none_ok N).writes, (Dev.none_ok N).many, (Dev.none_ok N).ops, (Dev.none_ok N).left, (Dev.none_ok N).count⟩
theorem zero_at (w : World) : DiskAt (w.alloc (.cells (dcells ⟨w.heap.size, none, .slice none 0 0, none⟩ Dev.none) 60)) ⟨w.heap.size, none, .slice none 0 0, none⟩ Dev.none :=
  ⟨Holds.new _ _ _, fun _ => rfl, .inl ⟨rfl, rfl⟩, ⟨0, fun _ => rfl⟩, fun m h => by cases h⟩

set_option maxRecDepth 8000 in
theorem new_any (n : Int) (w : World) :
    Calls Try.prog 10 #[.int .i64 n] w fun e w' => ∃ h, e = .returned (.pointer (some ⟨h.b, 0, none⟩)) ∧ DiskAt w' h (Dev.new n) ∧ (∀ k, Blk h k → w.heap.size ≤ k) ∧ Below w.heap.size w w' := by
  have a0 := zero_at w
  have hB := below_new1 w (.cells (dcells ⟨w.heap.size, none, .slice none 0 0, none⟩ Dev.none) 60)
  have hl := limit_any a0 n
  unfold dcells Dev.none at hl a0 hB
  dsimp only at hl a0 hB
  go_enter Try.func10, Try.ntmps10
  go_wp2_with (go_at_call 24; refine hl.mono ?_; rintro e w1 ⟨rfl, hd⟩)
  go_ret
  refine ⟨⟨w.heap.size, none, .slice none 0 0, none⟩, rfl, hd.at_, ?_, Keep.fresh hB hd.keep ?_⟩
  · rintro k (rfl | hk | hk | hk)
    · exact Nat.le_refl _
    · cases hk
    · cases hk
    · cases hk
  · rintro k (rfl | hk | ⟨_, _, hk, _⟩)
    · exact Nat.le_refl _
    · cases hk
    · cases hk

/-- Its block alone has turned; other faults. -/
theorem Done.turnF {w w' : World} {h : Hd} {D D' : Dev} {f : Option Nat} (a : DiskAt w h D) (hO : Only h.b w w') (hp : Holds w' h.b 60 (dcells { h with fo := f } D')) (h1 : D'.pages = D.pages) (h2 : D'.writes = D.writes) (hf : ∃ n, MapV unitElem encU w' n f D'.fails) (hap : ∀ m, f = some m → h.po ≠ some m) : Done w h w' { h with fo := f } D' := by
  have hm : ∀ m, (∃ es clock, w.heap[m]? = some (.map es clock)) → m ≠ h.b := by
    rintro m ⟨es, clock, hq⟩ rfl
    have := a.ptr
    unfold Holds at this
    rw [this] at hq
    cases hq
  refine ⟨⟨hp, ?_, ?_, hf, hap⟩, ⟨rfl, fun k => .inl⟩, Keep.only hO (.inl rfl)⟩
  · rw [h1]
    exact a.pages.block fun m e => hO.block m (a.pages.lt m e) (hm m (a.pages.obj m e))
  · rw [h2]
    refine a.writes.block fun k hk => hO.block k (a.writes.lt k hk) ?_
    rintro rfl
    obtain ⟨cur, hq⟩ := a.writes.obj _ hk
    have := a.ptr
    unfold Holds at this
    rw [this] at hq
    injection hq with hq
    injection hq with _ hq
    exact absurd hq (by decide)

set_option maxRecDepth 8000 in
theorem clear_any {w : World} {h : Hd} {D : Dev} (a : DiskAt w h D) :
    Calls Try.prog 22 #[.pointer (some ⟨h.b, 0, none⟩)] w fun e w' => e = .returned (.tuple #[]) ∧ ∃ h', h'.wv = h.wv ∧ h'.fo = none ∧ Done w h w' h' { D with armed := false, left := 0, fails := fun _ => none, count := 0 } := by
  have hq := ptr_neq
  have c5 : w.cell? ⟨h.b, 5, none⟩ = some (.bool D.armed) := a.ptr.cell 5
  have c6 : w.cell? ⟨h.b, 6, none⟩ = some (.int .i64 D.left) := a.ptr.cell 6
  have c7 : w.cell? ⟨h.b, 7, none⟩ = some (.map h.fo) := a.ptr.cell 7
  have c8 : w.cell? ⟨h.b, 8, none⟩ = some (.int .i64 D.count) := a.ptr.cell 8
  have f5 := frozenD a 5
  have f6 := frozenD a 6
  have f7 := frozenD a 7
  have f8 := frozenD a 8
  go_enter Try.func22, Try.ntmps22
  go_wp2_with fail
  go_end0
  exact ⟨rfl, { h with fo := none }, rfl, rfl, Done.turnF a (((((Only.refl _ _).set 5 _).set 6 _).set 7 _).set 8 _) (((((a.ptr.set 5 _).set 6 _).set 7 _).set 8 _).congr rfl) rfl rfl ⟨0, fun _ => rfl⟩ (fun m e => by cases e)⟩
theorem clear_nil (w : World) : Calls Try.prog 22 #[.pointer none] w fun e w' => e = .returned (.tuple #[]) ∧ w' = w := by
  have hq := ptr_neq
  go_enter Try.func22, Try.ntmps22
  go_wp2_with fail
  go_end0
  exact ⟨rfl, rfl⟩

/-- A slice of integers, as it lies in memory. -/
def IntsAt (w : World) (v : Value) (l : List Int) : Prop :=
  (l = [] ∧ ∃ p c, v = .slice p 0 c) ∨ ∃ b o c, v = .slice (some ⟨b, o, none⟩) l.length c ∧ ∀ i, i < l.length → w.cell? ⟨b, o + i, none⟩ = some (.int .i64 (l.getD i 0))
theorem IntsAt.len {w : World} {v : Value} {l : List Int} (h : IntsAt w v l) : ∃ p c, v = .slice p l.length c := by
  rcases h with ⟨rfl, p, c, rfl⟩ | ⟨b, o, c, rfl, _⟩
  · exact ⟨p, c, rfl⟩
  · exact ⟨_, c, rfl⟩
theorem IntsAt.at {w : World} {p : Option Addr} {n c : Nat} {l : List Int} (h : IntsAt w (.slice p n c) l) {i : Nat} {x : Int} (hx : l[i]? = some x) : ∃ b o, p = some ⟨b, o, none⟩ ∧ n = l.length ∧ w.cell? ⟨b, o + i, none⟩ = some (.int .i64 x) := by
  have hi := (List.getElem?_eq_some_iff.1 hx).1
  rcases h with ⟨rfl, _⟩ | ⟨b, o, c', e, h2⟩
  · simp at hx
  · injection e with e1 e2 _
    refine ⟨b, o, e1, e2, ?_⟩
    rw [h2 i hi, List.getD_eq_getElem?_getD, hx]; rfl
theorem IntsAt.block {w w' : World} {v : Value} {l : List Int} (h : IntsAt w v l) (hb : ∀ k, v.ownBlock = some k → w'.heap[k]? = w.heap[k]?) : IntsAt w' v l := by
  rcases h with h | ⟨b, o, c, rfl, h2⟩
  · exact .inl h
  · exact .inr ⟨b, o, c, rfl, fun i hi => (World.cell?_of_block (hb b rfl)).trans (h2 i hi)⟩

/-- The faults' map alone has turned. -/
theorem DiskAt.fmap {w w' : World} {h : Hd} {D : Dev} {m n : Nat} {F : Int → Option Unit} (a : DiskAt w h D) (hm : h.fo = some m) (hO : Only m w w') (hp : MapAt unitElem encU w' m n F) : DiskAt w' h { D with fails := F } := by
  obtain ⟨n0, hf⟩ := a.fails
  obtain ⟨es, clock, hob⟩ := hf.obj m hm
  have hbm : h.b ≠ m := by
    rintro rfl
    have := a.ptr
    unfold Holds at this
    rw [this] at hob
    cases hob
  refine ⟨hO.holds a.ptr hbm, ?_, ?_, ⟨n, by rw [hm]; exact hp⟩, a.apart⟩
  · exact a.pages.block fun k e => hO.block k (a.pages.lt k e) (fun q => a.apart m hm (by rw [← q]; exact e))
  · refine a.writes.block fun k hk => hO.block k (a.writes.lt k hk) ?_
    rintro rfl
    obtain ⟨cur, hq⟩ := a.writes.obj _ hk
    rw [hq] at hob
    cases hob

/-- The numbers of a list. -/
def failsOf (l : List Int) (u : Int) : Option Unit := if u ∈ l then some () else none
theorem failsOf_app (l : List Int) (x : Int) : setM (failsOf l) x (some ()) = failsOf (l ++ [x]) := by
  funext u
  unfold setM failsOf
  by_cases e : u = x
  · rw [if_pos e, if_pos (by simp [e])]
  · rw [if_neg e]
    by_cases h : u ∈ l
    · rw [if_pos h, if_pos (by simp [h])]
    · rw [if_neg h, if_neg (by simp [h, e])]
theorem buildU (w : World) : (Instr.build 77 #[]).run Try.prog w = .ok (.agg #[]) w := run_build w _ _ _ (by kernel_rfl)

theorem run_makeF (n : Int) (w : World) : (Instr.makeMap 56 (some (.int .i64 n))).run Try.prog w = .ok (.map (some w.heap.size)) (w.alloc (.map #[] 0)) := by
  have h := Try.underlying56
  simp [Instr.makeMap, run_underlying h, asInt, asIntOf, newObj, go_sem]
  rfl

set_option maxRecDepth 8000 in
set_option maxHeartbeats 2000000 in
theorem fail_any {w : World} {h : Hd} {D : Dev} (a : DiskAt w h D) {v : Value} {l : List Int} (hl : ∀ W, Keep (Foot h) w W → IntsAt W v l) (hlm : l.length ≤ 9223372036854775807) (hin : ∀ x ∈ l, -9223372036854775808 ≤ x ∧ x ≤ 9223372036854775807) :
    Calls Try.prog 20 #[.pointer (some ⟨h.b, 0, none⟩), v] w fun e w' => e = .returned (.tuple #[]) ∧ ∃ h', h'.wv = h.wv ∧ Done w h w' h' { D with fails := failsOf l, count := 0 } := by
  have hq := ptr_eql
  obtain ⟨p, c, rfl⟩ := (hl w (Keep.refl _ _)).len
  have hbu := buildU
  have hli : (l.length : Int) ≤ 9223372036854775807 := by omega
  have c7 : w.cell? ⟨h.b, 7, none⟩ = some (.map h.fo) := a.ptr.cell 7
  have c8 : w.cell? ⟨h.b, 8, none⟩ = some (.int .i64 D.count) := a.ptr.cell 8
  have f7 := frozenD a 7
  have f8 := frozenD a 8
  have hmm := run_makeF l.length w
  have hB1 := below_new1 w (.map #[] 0)
  have m0 := MapAt.made (R := unitElem) (enc := encU) w
  obtain ⟨m, hm⟩ : ∃ m, w.heap.size = m := ⟨_, rfl⟩
  have HM : Hid (w.heap.size = m) := hm
  have hbl : h.b < m := by rw [← hm]; exact a.ptr.lt
  have hpl : ∀ k, h.po = some k → k < m := by rw [← hm]; exact a.pages.lt
  obtain ⟨W0, hW0⟩ : ∃ W, w.alloc (.map #[] 0) = W := ⟨_, rfl⟩
  rw [hW0] at hmm hB1 m0
  rw [hm] at hmm m0
  clear hW0 hm
  have a1 := a.below hB1
  have c71 : W0.cell? ⟨h.b, 7, none⟩ = some (.map h.fo) := a1.ptr.cell 7
  have c81 : W0.cell? ⟨h.b, 8, none⟩ = some (.int .i64 D.count) := a1.ptr.cell 8
  have f71 := frozenD a1 7
  have f81 := frozenD a1 8
  have m1 : MapAt unitElem encU ((W0.setCell ⟨h.b, 7, none⟩ (.map (some m))).setCell ⟨h.b, 8, none⟩ (.int .i64 0)) m 0 (failsOf []) := by
    refine MapAt.block (w := W0) (m0.congr fun u => by unfold failsOf; simp) ?_
    rw [Below.heap_setCell _ _ _ _ (by dsimp only; omega), Below.heap_setCell _ _ _ _ (by dsimp only; omega)]
  have d1 : Done W0 h ((W0.setCell ⟨h.b, 7, none⟩ (.map (some m))).setCell ⟨h.b, 8, none⟩ (.int .i64 0)) { h with fo := some m } { D with fails := failsOf [], count := 0 } := by
    refine Done.turnF a1 (((Only.refl _ _).set 7 _).set 8 _) (((a1.ptr.set 7 _).set 8 _).congr rfl) rfl rfl ⟨0, m1⟩ (fun k e => ?_)
    injection e with e
    intro q
    have := hpl k q
    omega
  obtain ⟨W1, hW1⟩ : ∃ W, (W0.setCell ⟨h.b, 7, none⟩ (.map (some m))).setCell ⟨h.b, 8, none⟩ (.int .i64 0) = W := ⟨_, rfl⟩
  rw [hW1] at d1 m1
  have D1 : Hid (Done w h W1 { h with fo := some m } { D with fails := failsOf [], count := 0 }) := Done.ahead hB1 d1
  clear d1 a1 hB1 m0 hpl c7 c8 f7 f8
  go_enter Try.func20, Try.ntmps20
  go_wp2_with fail
  go_loopw [21] (fun y wr => ∃ k : Nat, y = .int .i64 (k : Nat) ∧ k ≤ l.length ∧ Done w h wr { h with fo := some m } { D with fails := failsOf (l.take k), count := 0 } ∧ MapAt unitElem encU wr m k (failsOf (l.take k))) (fun y _ => l.length - (intOf y).toNat)
  case atStart => exact ⟨0, rfl, Nat.zero_le _, D1.out, m1⟩
  case round =>
    obtain ⟨k, rfl, hkl, hdk, hmk⟩ := hrel
    by_cases hk : k < l.length
    · have hki : (k : Int) < l.length := by omega
      obtain ⟨x, hx⟩ : ∃ x, l[k]? = some x := ⟨_, List.getElem?_eq_getElem hk⟩
      obtain ⟨g, o, rfl, _, hcx⟩ := (hl wr hdk.keep).at hx
      have hxr := hin x (List.mem_of_getElem? hx)
      have ck : wr.cell? ⟨h.b, 7, none⟩ = some (.map (some m)) := hdk.at_.ptr.cell 7
      obtain ⟨w', hrun, r1, r2, r3⟩ := hmk.upd elemU Try.underlying56 (by unfold maxLen; omega) (wfI hxr.1 hxr.2) ()
      rw [failsOf_app, show l.take k ++ [x] = l.take (k + 1) by rw [List.take_add_one, hx, Option.toList_some]] at r1
      have HX : Hid (Done w h w' { h with fo := some m } { D with fails := failsOf (l.take (k + 1)), count := 0 }) :=
        ⟨hdk.at_.fmap rfl r2 r1, hdk.newer, hdk.keep.trans (Keep.only (S := fun i => i = m) r2 rfl) (fun i e => .inr (by have := HM.out; omega))⟩
      have HR : Hid (MapAt unitElem encU w' m (k + 1) (failsOf (l.take (k + 1)))) := r1
      clear r1 r2 r3 hdk hmk m1
      unfold mkU at hrun
      go_wp2_with fail
      go_roundw
      case rel => exact ⟨k + 1, by go_num, by omega, HX.out, HR.out⟩
      case measure => simp [intOf]; omega
    · have hni : ¬ (k : Int) < l.length := by omega
      have HX : Hid (Done w h wr { h with fo := some m } { D with fails := failsOf l, count := 0 }) := by
        rw [show l.take k = l from List.take_of_length_le (by omega)] at hdk
        exact hdk
      clear hdk hmk m1
      go_wp2_with fail
      go_end0
      exact ⟨rfl, { h with fo := some m }, rfl, HX.out⟩
theorem fail_nil (v : Value) (w : World) : Calls Try.prog 20 #[.pointer none, v] w fun e w' => e = .returned (.tuple #[]) ∧ w' = w := by
  have hq := ptr_eql
  go_enter Try.func20, Try.ntmps20
  go_wp2_with fail
  exact bodyPost_ret (results_none rfl _ _ _) rfl ⟨rfl, rfl⟩
end Go.Proofs.Ytonmjkalkkfhhaa
