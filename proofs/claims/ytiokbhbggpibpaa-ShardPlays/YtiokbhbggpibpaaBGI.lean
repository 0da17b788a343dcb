/-
  Texts of this claim, put together.
-/
import Derived.Test.YtiokbhbggpibpaaBGA
import Derived.Test.YtiokbhbggpibpaaShelf
import Derived.Lib.Builder
import Derived.Lib.AppendStr
import Derived.Lib.UnsafeStr
import Derived.Laws.Externs
import Derived.Test.YtiokbhbggpibpaaBGF
import Derived.Test.YtiokbhbggpibpaaBGH
/-
  The builder that Bytes writes into: copyCheck, Write, WriteString.
-/
namespace Go.Proofs.Ytiokbhbggpibpaa
open Go Go.RowKit Go.Maps

theorem sizeBld : (Try.prog.info? 88).map (·.size) = some 2 := by kernel_rfl
theorem liesBld : liesAt Try.prog Try.prog.depth 88 (2 / Try.prog.cellsOf 88) 0 88 1 = true := by kernel_rfl
theorem underPB : Try.prog.underlying 85 = some (.pointer 88) := by kernel_rfl
theorem underUn : Try.prog.underlying 112 = some .unsafePointer := by kernel_rfl

set_option maxHeartbeats 1000000 in
set_option maxRecDepth 100000 in
theorem copy_used (b : Nat) (w : World) (h0 : w.cell? ⟨b, 0, none⟩ = some (.pointer (some ⟨b, 0, none⟩))) :
    Calls Try.prog 73 #[.pointer (some ⟨b, 0, none⟩)] w fun e w' => e = .returned (.tuple #[]) ∧ w' = w := by
  obtain ⟨j, hj, _⟩ := Option.map_eq_some_iff.1 sizeBld
  go_enter Try.func73, Try.ntmps73
  go_wp2
  rw [Lib.run_neq_ptr_same w _ underPB hj]
  go_wp2
  go_end0
  exact ⟨rfl, rfl⟩

set_option maxHeartbeats 1000000 in
set_option maxRecDepth 100000 in
theorem copy_fresh (b : Nat) (w : World) (h0 : w.cell? ⟨b, 0, none⟩ = some (.pointer none)) (hsh : w.shape? b = some (88, 2)) (hfz : w.frozen? ⟨b, 0, none⟩ = false) :
    Calls Try.prog 73 #[.pointer (some ⟨b, 0, none⟩)] w fun e w' => e = .returned (.tuple #[]) ∧ w' = w.setCell ⟨b, 0, none⟩ (.pointer (some ⟨b, 0, none⟩)) := by
  obtain ⟨j, hj, hjs⟩ := Option.map_eq_some_iff.1 sizeBld
  go_enter Try.func73, Try.ntmps73
  go_wp2
  rw [Lib.run_to_unsafe w ⟨b, 0, none⟩ underPB underUn hj (by rw [hjs]; decide) hsh (Nat.zero_lt_succ 1)]
  simp only [Result.andThen]
  rw [Oper.upon_value]
  go_wp2
  rw [run_callFunc_extern Try.func77 (by kernel_rfl) (by kernel_rfl) (by kernel_rfl) (e := Extern.AbiNoEscape.same) (by kernel_rfl)]
  rw [Lib.run_noEscape]
  simp only [Result.andThen]
  rw [Oper.upon_value]
  go_wp2
  rw [Lib.run_from_unsafe w ⟨b, 0, none⟩ underUn underPB hj hsh liesBld]
  simp only [Result.andThen]
  rw [Oper.upon_value]
  go_wp2
  go_end0
  exact ⟨rfl, rfl⟩

/-- A builder in block b; its row, if it has one, lies from n on. -/
structure Bld (w : World) (b n : Nat) (v : Value) (bs : List Value) : Prop where
  lt : b < n
  blk : ∃ p, (p = .pointer none ∨ p = .pointer (some ⟨b, 0, none⟩)) ∧ Holds w b 88 #[p, v]
  row : w.ownsRow n 5 1 v bs.length bs
/-- What changes but a builder's blocks: nothing. -/
structure OnlyR (b : Nat) (v : Value) (w w' : World) : Prop where
  os : w'.os = w.os
  tape : w'.tape = w.tape
  output : w'.output = w.output
  size : w.heap.size ≤ w'.heap.size
  block : ∀ k, k < w.heap.size → k ≠ b → v.ownBlock ≠ some k → w'.heap[k]? = w.heap[k]?
theorem Bld.below {w w' : World} {b n : Nat} {v : Value} {bs : List Value} (h : Bld w b n v bs) (hb : Below w.heap.size w w') : Bld w' b n v bs := by
  obtain ⟨h1, ⟨p, h2, h3⟩, h4⟩ := h
  exact ⟨h1, ⟨p, h2, below_holds hb h3⟩, ownsRow_below hb h4⟩
theorem Bld.is {w : World} {b n : Nat} {v : Value} {bs : List Value} (h : Bld w b n v bs) : Lib.IsBuilder 88 5 b b bs w := by
  obtain ⟨h1, ⟨p, h2, h3⟩, h4⟩ := h
  have hr : w.ownsRow b 5 1 v bs.length bs := by
    refine ⟨h4.1, ?_⟩
    rcases h4.2 with h | ⟨g, cap, cur, q1, q2, q3⟩
    · exact .inl h
    · exact .inr ⟨g, cap, cur, q1, by omega, q3⟩
  have hne : v.ownBlock ≠ some b := fun e => by have := (h4.lt b e).1; omega
  rcases h2 with rfl | rfl
  · exact .inl ⟨Nat.le_refl _, v, h3, hr, hne⟩
  · exact .inr ⟨Nat.le_refl _, v, h3, hr, hne⟩
theorem Bld.ne {w : World} {b n : Nat} {v : Value} {bs : List Value} (h : Bld w b n v bs) : v.ownBlock ≠ some b := fun e => by have := (h.row.lt b e).1; have := h.lt; omega
theorem OnlyR.below {b n : Nat} {v : Value} {w w' : World} (k : OnlyR b v w w') (h : n ≤ b) (hv : ∀ k, v.ownBlock = some k → n ≤ k) (hn : n ≤ w.heap.size) : Below n w w' :=
  ⟨k.os, k.tape, k.output, k.size, fun i hi => k.block i (by omega) (by omega) (fun e => by have := hv i e; omega)⟩
theorem OnlyR.holds {b c : Nat} {v : Value} {w w' : World} {t : TypeId} {cs : Array Value} (k : OnlyR b v w w') (h : Holds w c t cs) (hb : c ≠ b) (hv : v.ownBlock ≠ some c) : Holds w' c t cs := by
  have := h.lt
  unfold Holds at *
  rw [k.block c this hb hv]; exact h

theorem copy_any {b n : Nat} {v : Value} {bs : List Value} {w : World} (h : Bld w b n v bs) :
    Calls Try.prog 73 #[.pointer (some ⟨b, 0, none⟩)] w fun e w' => e = .returned (.tuple #[]) ∧ Bld w' b n v bs ∧ Holds w' b 88 #[.pointer (some ⟨b, 0, none⟩), v] ∧ Only b w w' := by
  have hne := h.ne
  obtain ⟨h1, ⟨p, h2, h3⟩, h4⟩ := h
  rcases h2 with rfl | rfl
  · refine (copy_fresh b w (h3.cell 0) (by unfold Holds at h3; simp [World.shape?, h3]) (h3.frozen 0)).mono ?_
    rintro e w' ⟨rfl, rfl⟩
    have hs := h3.set 0 (.pointer (some ⟨b, 0, none⟩))
    have ho : Only b w (w.setCell ⟨b, 0, none⟩ (.pointer (some ⟨b, 0, none⟩))) := (Only.refl b w).set 0 _
    exact ⟨rfl, ⟨h1, ⟨_, .inr rfl, hs⟩, h4.kept (row := some b) ⟨ho.os, ho.tape, ho.output, ho.size, fun i hi hx => ho.block i hi fun q => hx (by rw [q])⟩ (.inr hne)⟩, hs, ho⟩
  · refine (copy_used b w (h3.cell 0)).mono ?_
    rintro e w' ⟨rfl, rfl⟩
    exact ⟨rfl, ⟨h1, ⟨_, .inr rfl, h3⟩, h4⟩, h3, Only.refl _ _⟩

theorem bld_put {b n : Nat} {v v' p : Value} {bs bs' : List Value} {w w1 w2 : World} (hb : b < n) (hO : Only b w w1) (hbk : Holds w1 b 88 #[p, v]) (hp : p = .pointer none ∨ p = .pointer (some ⟨b, 0, none⟩)) (hown : w1.ownsRow n 5 1 v bs.length bs) (hown' : w2.ownsRow n 5 1 v' bs'.length bs') (hg : w1.grownBy w2 v.ownBlock) :
    Bld (w2.setCell ⟨b, 1, none⟩ v') b n v' bs' ∧ OnlyR b v w (w2.setCell ⟨b, 1, none⟩ v') := by
  have hne : some b ≠ v.ownBlock := fun e => by have := (hown.lt b e.symm).1; omega
  have hne' : v'.ownBlock ≠ some b := fun e => by have := (hown'.lt b e).1; omega
  have hb2 : Holds w2 b 88 #[p, v] := by
    have := hbk.lt
    unfold Holds at *
    rw [hg.block b this hne]; exact hbk
  have ho : Only b w2 (w2.setCell ⟨b, 1, none⟩ v') := (Only.refl b w2).set 1 _
  refine ⟨⟨hb, ⟨p, hp, hb2.set 1 _⟩, hown'.kept (row := some b) ⟨ho.os, ho.tape, ho.output, ho.size, fun i hi hx => ho.block i hi fun q => hx (by rw [q])⟩ (.inr hne')⟩, ⟨?_, ?_, ?_, ?_, fun k hk h1 h2 => ?_⟩⟩
  · exact (ho.os.trans hg.os).trans hO.os
  · exact (ho.tape.trans hg.tape).trans hO.tape
  · exact (ho.output.trans hg.output).trans hO.output
  · exact Nat.le_trans hO.size (Nat.le_trans hg.size ho.size)
  · have hs := hO.size
    have hs2 := hg.size
    rw [ho.block k (by omega) h1, hg.block k (by omega) (fun e => h2 e.symm), hO.block k hk h1]

set_option maxHeartbeats 2000000 in
set_option maxRecDepth 8000 in
theorem writeS_any {b n : Nat} {v : Value} {bs : List Value} (s : ByteArray) {w : World} (h : Bld w b n v bs) (hlen : bs.length + s.size ≤ 140737488355328) (hBw : n ≤ w.heap.size) :
    Calls Try.prog 56 #[.pointer (some ⟨b, 0, none⟩), .string s] w fun e w' => (∃ r, e = .returned r) ∧ ∃ v', Bld w' b n v' (bs ++ Lib.strCells s) ∧ OnlyR b v w w' := by
  obtain ⟨i0, hi, hz0, hz1, hz2⟩ := info_parts info5
  go_enter Try.func56, Try.ntmps56
  go_wp2_with (go_at_call 73; refine (copy_any h).mono ?_)
  rintro e w1 ⟨rfl, h1, hbk, hO1⟩
  have hown := h1.row
  have c0 : w1.cell? ⟨b, 0, none⟩ = some (.pointer (some ⟨b, 0, none⟩)) := hbk.cell 0
  have c1 : w1.cell? ⟨b, 1, none⟩ = some v := hbk.cell 1
  go_wp2_with (at_builtin; refine Lib.wpList_append_own_string _ rfl _ _ 86 9 rfl n 5 i0 underBytes Try.underlying9 hi hz0 hz1 hz2 _ _ _ rfl hown s rfl ?c3 ?c4 ?c5 ?_)
  case c3 => unfold maxLen; omega
  case c4 => omega
  case c5 => have := hO1.size; omega
  intro v' w2 hown' hgrow _
  have hne := h1.ne
  have hb2 : Holds w2 b 88 #[.pointer (some ⟨b, 0, none⟩), v] := by
    have := hbk.lt
    unfold Holds at *
    rw [hgrow.block b this (fun e => hne e.symm)]; exact hbk
  have d0 : w2.cell? ⟨b, 0, none⟩ = some (.pointer (some ⟨b, 0, none⟩)) := hb2.cell 0
  have d1 : w2.cell? ⟨b, 1, none⟩ = some v := hb2.cell 1
  have f1 : w2.frozen? ⟨b, 1, none⟩ = false := hb2.frozen 1
  obtain ⟨ao, n', cap, rfl⟩ : ∃ ao n' cap, v' = .slice ao n' cap := by
    rcases hown'.2 with ⟨hv, _⟩ | ⟨g, cap, cur, hv, _⟩
    · exact ⟨_, _, _, hv⟩
    · exact ⟨_, _, _, hv⟩
  go_wp2
  go_ret2
  exact ⟨⟨_, rfl⟩, _, bld_put h.lt hO1 hbk (.inr rfl) hown (by simpa [Lib.strCells_length] using hown') hgrow⟩

set_option maxHeartbeats 2000000 in
set_option maxRecDepth 8000 in
/-- Write, of a new slice's bytes. -/
theorem write_any {b n : Nat} {v : Value} {bs : List Value} {g m : Nat} {news : Array Value} {w : World} (h : Bld w b n v bs) (hg : Holds w g 5 news) (hm : news.size = m) (hgb : g ≠ b) (h1 : ∀ u ∈ news.toList, u.oneCell' = true)
    (hlen : bs.length + m ≤ 140737488355328) (hBw : n ≤ w.heap.size) :
    Calls Try.prog 55 #[.pointer (some ⟨b, 0, none⟩), .slice (some ⟨g, 0, none⟩) m m] w fun e w' => (∃ r, e = .returned r) ∧ ∃ v', Bld w' b n v' (bs ++ news.toList) ∧ OnlyR b v w w' := by
  obtain ⟨i0, hi, hz0, hz1, hz2⟩ := info_parts info5
  go_enter Try.func55, Try.ntmps55
  go_wp2_with (go_at_call 73; refine (copy_any h).mono ?_)
  rintro e w1 ⟨rfl, h1', hbk, hO1⟩
  have hown := h1'.row
  have c0 : w1.cell? ⟨b, 0, none⟩ = some (.pointer (some ⟨b, 0, none⟩)) := hbk.cell 0
  have c1 : w1.cell? ⟨b, 1, none⟩ = some v := hbk.cell 1
  have hg1 := hO1.holds hg hgb
  have hnews1 : ∀ j u, news.toList[j]? = some u → w1.cell? ((⟨g, 0, none⟩ : Addr).add j) = some u := fun j u hj => by
    have := hg1.cell j
    rw [show (⟨g, 0, none⟩ : Addr).add j = ⟨g, j, none⟩ by simp [Addr.add]; omega, this]
    simpa using hj
  go_wp2_with (at_builtin; refine wpList_append_own _ rfl _ _ 86 rfl n 5 i0 (.int .u8 0) 1 1 underBytes hi hz0 hz1 hz2 rfl (by decide) _ _ _ rfl hown ⟨g, 0, none⟩ m m news.toList rfl (by simp [hm]) hnews1 h1 ?c3 ?c4 ?c5 ?_)
  case c3 => unfold maxLen; omega
  case c4 => omega
  case c5 => have := hO1.size; omega
  intro v' w2 hown' hgrow _
  have hne := h1'.ne
  have hb2 : Holds w2 b 88 #[.pointer (some ⟨b, 0, none⟩), v] := by
    have := hbk.lt
    unfold Holds at *
    rw [hgrow.block b this (fun e => hne e.symm)]; exact hbk
  have d0 : w2.cell? ⟨b, 0, none⟩ = some (.pointer (some ⟨b, 0, none⟩)) := hb2.cell 0
  have d1 : w2.cell? ⟨b, 1, none⟩ = some v := hb2.cell 1
  have f1 : w2.frozen? ⟨b, 1, none⟩ = false := hb2.frozen 1
  obtain ⟨ao, n', cap, rfl⟩ : ∃ ao n' cap, v' = .slice ao n' cap := by
    rcases hown'.2 with ⟨hv, _⟩ | ⟨g, cap, cur, hv, _⟩
    · exact ⟨_, _, _, hv⟩
    · exact ⟨_, _, _, hv⟩
  go_wp2
  go_ret2
  exact ⟨⟨_, rfl⟩, _, bld_put h.lt hO1 hbk (.inr rfl) hown (by simpa [hm] using hown') hgrow⟩
end Go.Proofs.Ytiokbhbggpibpaa
/-
  kindOf, and what writes a container's bits.
-/
namespace Go.Proofs.Ytiokbhbggpibpaa
open Go Go.RowKit Go.Maps

/-- The two kinds. -/
def kindV (m : Nat) (v : Value) (w w' : World) : Prop :=
  (m ≤ 32 ∧ v = .tuple #[.func (.func 69) #[] #[], .func (.func 70) #[] #[], .int .i64 (m : Nat)]) ∨
  (32 < m ∧ ∃ b, v = .tuple #[.func (.func 71) #[] #[], .func (.func 72) #[] #[.pointer (some ⟨b, 0, none⟩)], .int .i64 32] ∧ w.heap.size ≤ b ∧ Holds w' b 3 #[.int .i64 (m : Nat)])

theorem kind_any (m : Nat) (w : World) (hm : m ≤ 256) : Calls Try.prog 54 #[.int .i64 (m : Nat)] w fun e w' => ∃ v, e = .returned v ∧ kindV m v w w' ∧ Below w.heap.size w w' := by
  have hb := below_new1 w (.cells #[.int .i64 (m : Nat)] 3)
  have hh := Holds.new w 3 #[.int .i64 (m : Nat)]
  by_cases h : m ≤ 32
  · have hI : (m : Int) ≤ 32 := by omega
    go_enter Try.func54, Try.ntmps54
    go_wp2
    go_region
    go_wp2
    go_ret3
    exact ⟨_, rfl, .inl ⟨h, rfl⟩, hb.drew⟩
  · have hI : ¬ (m : Int) ≤ 32 := by omega
    go_enter Try.func54, Try.ntmps54
    go_wp2
    go_ret3
    exact ⟨_, rfl, .inr ⟨by omega, _, rfl, Nat.le_refl _, hh⟩, hb⟩

/-- The bits as bytes. -/
def bitB (p : Nat → Bool) : List UInt8 := (List.range 32).map fun i => UInt8.ofNat (bt p i)

theorem bitB_len (p : Nat → Bool) : (bitB p).length = 32 := by simp [bitB]

theorem convert_bits {w : World} {g : Nat} {t : TypeId} {p : Nat → Bool} (h : Holds w g t (contA p)) :
    (convert 86 9 (.slice (some ⟨g, 0, none⟩) 32 32)).run Try.prog w = .ok (.string ⟨(bitB p).toArray⟩) w := by
  have := run_convert_bytes_back (P := Try.prog) w 86 9 5 ⟨g, 0, none⟩ 32 (bitB p) underBytes (by kernel_rfl) (by kernel_rfl) (fun j hj => ?_)
  · rw [bitB_len] at this; exact this
  · have hj' : j < 32 := by rw [← bitB_len p]; exact hj
    have hc := h.cell j
    rw [show (⟨g, 0, none⟩ : Addr).add j = ⟨g, j, none⟩ by simp [Addr.add]; omega, hc, contA_get p j hj']
    have := bt_lt p j
    simp [bitB]
    omega

set_option maxRecDepth 8000 in
theorem bits_any (p : Nat → Bool) (w : World) : Calls Try.prog 71 #[.agg (contA p)] w fun e w' => e = .returned (.string ⟨(bitB p).toArray⟩) ∧ Below w.heap.size w w' := by
  obtain ⟨W0, hW⟩ : ∃ W0, World.alloc w (.cells (contA p) 76) = W0 := ⟨_, rfl⟩
  have h1 : Holds W0 w.heap.size 76 (contA p) := by rw [← hW]; exact Holds.new _ _ _
  have hB : Below w.heap.size w W0 := by rw [← hW]; exact below_new1 _ _
  have hcv := convert_bits h1
  have hsz : (contA p).size = 32 := contA_size p
  generalize contA p = cs at h1 hW hsz ⊢
  generalize bitB p = bs at hcv ⊢
  go_enter Try.func71, Try.ntmps71
  go_wp2
  go_ret
  exact ⟨rfl, hB⟩
end Go.Proofs.Ytiokbhbggpibpaa
/-
  What Bytes does.
-/
namespace Go.Proofs.Ytiokbhbggpibpaa
open Go Go.RowKit Go.Maps

/-- A container's bytes behind its head. -/
def bodyB (p : Nat → Bool) : List UInt8 := if cnt p ≤ 32 then lowB p else bitB p
/-- A container's bytes. -/
def partB (M : Nat → Bool) (u : Nat) : List UInt8 := [UInt8.ofNat (u / 65536), UInt8.ofNat (u / 256), UInt8.ofNat u, UInt8.ofNat (cnt (atU M u) - 1)] ++ bodyB (atU M u)
/-- A set's bytes. -/
noncomputable def bytesM (M : Nat → Bool) : List UInt8 := (uppers M 0).flatMap (partB M)
theorem cnt_lows (p : Nat → Bool) : cnt p = (lowsL p 0).length := by
  unfold cnt lowsL
  rw [List.countP_eq_length_filter]
  simp
theorem bodyB_len (p : Nat → Bool) : (bodyB p).length ≤ 32 := by
  unfold bodyB
  split
  · rw [lowB_len, ← cnt_lows]; assumption
  · rw [bitB_len]; exact Nat.le_refl _
theorem partB_len (M : Nat → Bool) (u : Nat) : (partB M u).length ≤ 36 := by
  unfold partB
  have := bodyB_len (atU M u)
  simp
  omega
/-- The bytes of the first. -/
def doneB (M : Nat → Bool) (us : List Nat) (i : Nat) : List UInt8 := (us.take i).flatMap (partB M)
theorem doneB_all (M : Nat → Bool) (us : List Nat) : doneB M us us.length = us.flatMap (partB M) := by unfold doneB; rw [List.take_length]
theorem doneB_succ {M : Nat → Bool} {us : List Nat} {i u : Nat} (h : us[i]? = some u) : doneB M us (i + 1) = doneB M us i ++ partB M u := by
  unfold doneB
  have hi := (List.getElem?_eq_some_iff.1 h).1
  rw [List.take_succ_eq_append_getElem hi, List.flatMap_append, List.flatMap_cons, List.flatMap_nil, List.append_nil]
  rw [List.getElem?_eq_getElem hi] at h
  injection h with h
  rw [h]
theorem flatB_len (M : Nat → Bool) : ∀ (l : List Nat), (l.flatMap (partB M)).length ≤ 36 * l.length
  | [] => by simp
  | u :: l => by
    rw [List.flatMap_cons, List.length_append, List.length_cons]
    have := flatB_len M l
    have := partB_len M u
    omega
theorem doneB_len (M : Nat → Bool) (us : List Nat) (i : Nat) (hi : i ≤ us.length) (hl : us.length ≤ 8388608) : (doneB M us i).length ≤ 301989888 := by
  have := flatB_len M (us.take i)
  unfold doneB
  rw [List.length_take] at this
  omega

theorem kindV.shape {m : Nat} {v : Value} {w w' : World} (h : kindV m v w w') : ∃ n r z, v = .tuple #[.func (.func n) #[] #[], r, z] ∧ (n = 69 ∨ n = 71) := by
  rcases h with ⟨_, h⟩ | ⟨_, b, h, _⟩
  · exact ⟨_, _, _, h, .inl rfl⟩
  · exact ⟨_, _, _, h, .inr rfl⟩
/-- What writes a container's lower parts. -/
theorem body_any (p : Nat → Bool) {n : Nat} {r s : Value} {w w0 w1 : World} (hk : kindV (cnt p) (.tuple #[.func (.func n) #[] #[], r, s]) w0 w1) :
    Calls Try.prog n #[.agg (contA p)] w fun e w' => e = .returned (.string ⟨(bodyB p).toArray⟩) ∧ Below w.heap.size w w' := by
  rcases hk with ⟨h1, h2⟩ | ⟨h1, b, h2, _⟩
  · simp at h2
    rw [h2.1]
    unfold bodyB
    rw [if_pos h1]
    exact writeList_any p w
  · simp at h2
    rw [h2.1]
    unfold bodyB
    rw [if_neg (by omega)]
    exact bits_any p w

set_option maxRecDepth 8000 in
set_option maxHeartbeats 2000000 in
theorem bytes_any {w : World} {s : Value} {mo : Option Nat} {M : Nat → Bool} (h : View w s mo M) :
    Calls Try.prog 31 #[s] w fun e w' => e = .returned (.string ⟨(bytesM M).toArray⟩) ∧ Below w.heap.size w w' := by
  obtain ⟨W0, hW0⟩ : ∃ W0, World.alloc w (.cells #[.pointer none, .slice none 0 0] 88) = W0 := ⟨_, rfl⟩
  have hb0 : Holds W0 w.heap.size 88 #[.pointer none, .slice none 0 0] := by rw [← hW0]; exact Holds.new _ _ _
  have hB0 : Below w.heap.size w W0 := by rw [← hW0]; exact below_new1 _ _
  have hp := parts_any (h.below hB0) 0
  have husl := uppers_len M 0
  have hus : ∀ u ∈ uppers M 0, u < NU ∧ liveU M u := fun _ hu => ⟨(mem_uppers.1 hu).1, (mem_uppers.1 hu).2.2⟩
  unfold bytesM
  generalize uppers M 0 = us at hp husl hus ⊢
  go_enter Try.func31, Try.ntmps31
  go_wp2_with (first
    | (go_at_call 53; refine hp.mono ?_; rintro e w1 ⟨v, rfl, hP, hB1, hob⟩; obtain ⟨p, n, c, rfl⟩ := hP.shape))
  have hS := fun (W : World) (l : List UInt8) (v : Value) (n : Nat) (hb : Bld W w.heap.size n v (Lib.byteCells l)) (hw : w.heap.size ≤ W.heap.size) => Try.Builder_String_any w.heap.size w.heap.size l W hb.is hw
  have hw1 : w.heap.size < w1.heap.size := Nat.lt_of_lt_of_le hb0.lt hB1.size
  have hb1 := below_holds hB1 hb0
  have hz0 : w.heap.size < W0.heap.size := hb0.lt
  have hBw := below_new hB0 hB1
  clear hp hW0 hB0 hb0 h
  rcases hP with ⟨h1, rfl⟩ | ⟨g, cap, h1, hgl, hin⟩
  · injection h1 with e1 e2 e3
    subst e1 e2 e3
    have hbl : Bld w1 w.heap.size w1.heap.size (.slice none 0 0) (Lib.byteCells []) := ⟨hw1, ⟨_, .inl rfl, hb1⟩, World.ownsRow_nil _ _ _ _⟩
    have hS1 := hS w1 [] _ _ hbl (by omega)
    clear hS
    go_loopw [13] (fun y wr => y = .int .i64 0 ∧ wr = w1) (fun _ _ => 0)
    case atStart => exact ⟨rfl, rfl⟩
    case round =>
      obtain ⟨rfl, rfl⟩ := hrel
      go_wp2_with (first | (go_at_call 57; refine hS1.mono ?_; rintro e w2 ⟨rfl, hB2⟩))
      go_ret
      exact ⟨rfl, hBw.trans hB2⟩
  · injection h1 with e1 e2 e3
    subst e1 e2 e3
    have hbl : Bld w1 w.heap.size w1.heap.size (.slice none 0 0) (Lib.byteCells (doneB M us 0)) := ⟨hw1, ⟨_, .inl rfl, hb1⟩, World.ownsRow_nil _ _ _ _⟩
    have hgW : w.heap.size < g := by have := hob g rfl; omega
    go_loopw [13] (fun y wr => ∃ i v, y = .int .i64 (i : Nat) ∧ i ≤ us.length ∧ Bld wr w.heap.size w1.heap.size v (Lib.byteCells (doneB M us i)) ∧ PartsIn wr g M us ∧ w1.heap.size ≤ wr.heap.size ∧ Below w.heap.size w wr) (fun y _ => us.length - (intOf y).toNat)
    case atStart => exact ⟨0, _, rfl, Nat.zero_le _, hbl, hin, Nat.le_refl _, hBw⟩
    case round =>
      obtain ⟨i, v, rfl, hi, hb, hin', hsz, hBr⟩ := hrel
      clear hbl hb1 hin hob hBw hB1
      by_cases hlt : i < us.length
      · have hii : (i : Int) < us.length := by omega
        have hil : (i : Int) < 8388608 := by omega
        have hi0 : (0 : Int) ≤ i := by omega
        obtain ⟨u, hu⟩ : ∃ u, us[i]? = some u := ⟨_, List.getElem?_eq_getElem hlt⟩
        obtain ⟨huN, hlv⟩ := hus u (List.mem_of_getElem? hu)
        rw [NU_eq] at huN
        have hrng := hin'.range hu
        have hnx := doneB_succ (M := M) hu
        have hC := IsC.mk (atU M u)
        have hct := count5 (atU M u)
        have hcl := cnt_le (atU M u)
        have hki := fun W => kind_any (cnt (atU M u)) W hcl
        have hdl := doneB_len M us i hi husl
        have hbo := fun (n : Nat) (r s : Value) (w w0 w1 : World) => body_any (atU M u) (n := n) (r := r) (s := s) (w := w) (w0 := w0) (w1 := w1)
        have hbl := bodyB_len (atU M u)
        have hpb : partB M u = [UInt8.ofNat (u / 65536), UInt8.ofNat (u / 256), UInt8.ofNat u, UInt8.ofNat (cnt (atU M u) - 1)] ++ bodyB (atU M u) := rfl
        have hcp : 0 < cnt (atU M u) := cnt_pos.2 hlv
        generalize bodyB (atU M u) = bo at hbo hbl hpb
        generalize cnt (atU M u) = ct at hct hcl hki hbo hpb hcp
        generalize hcs : contA (atU M u) = cs at hrng hC hct hbo
        have HU : Hid (us[i]? = some u) := hu
        have HN : Hid (doneB M us (i + 1) = doneB M us i ++ partB M u) := hnx
        have HP : Hid (partB M u = [UInt8.ofNat (u / 65536), UInt8.ofNat (u / 256), UInt8.ofNat u, UInt8.ofNat (ct - 1)] ++ bo) := hpb
        clear hu hnx hcs hpb
        have huI : (u : Int) < 8388608 := by omega
        have huI0 : (0 : Int) ≤ u := by omega
        have hcI : (ct : Int) ≤ 256 := by omega
        have hcI0 : (1 : Int) ≤ ct := by omega
        obtain ⟨W1, hW1⟩ : ∃ W1, World.alloc wr (.cells zero33 80) = W1 := ⟨_, rfl⟩
        have h1 : Holds W1 wr.heap.size 80 zero33 := by rw [← hW1]; exact Holds.new _ _ _
        have hB1 : Below wr.heap.size wr W1 := by rw [← hW1]; exact below_new1 _ _
        rw [zero33_eq] at hW1
        go_wp2_with (first
          | (refine wpList_ldP rfl _ rfl rfl hrng hC ?_)
          | (refine wpList_stP rfl _ _ rfl rfl rfl hC h1 rfl ?_; intro W2 h2 hO2 hs2; clear hs2; have hB2 : Below wr.heap.size wr W2 := Only.fresh hB1 hO2 (Nat.le_refl _))
          | (refine wpList_ldPC rfl _ rfl rfl h2 hC ?_)
          | (go_at_call 45; refine (hct _).mono ?_; rintro e w3 ⟨rfl, hB3⟩)
          | (go_at_call 54; refine (hki _).mono ?_; rintro e w4 ⟨kv, rfl, hkv, hB4⟩; obtain ⟨kn, kr, kz, rfl, hkn⟩ := hkv.shape; have h24 := below_holds hB4 (below_holds hB3 h2); have hc24 : w4.cell? ⟨wr.heap.size, 0, none⟩ = some (.int .i64 (u : Nat)) := (h24.cell 0).trans (partA_zero u cs)))
        have hne4 : (w4.heap.size : Nat) ≠ w.heap.size := by have := hB2.size; have := hB3.size; have := hB4.size; omega
        have hBr4 : Below wr.heap.size wr w4 := below_new (below_new hB2 hB3) hB4
        have hb4 := (hb.below hBr4).below (below_new1 w4 (.cells #[.int .u8 ((u : Int) / 65536), .int .u8 ((u : Int) / 256 % 256), .int .u8 ((u : Int) % 256), .int .u8 ((ct : Int) - 1)] 5))
        have hwr := hBr4.size
        refine (write_any (m := 4) (news := #[.int .u8 ((u : Int) / 65536), .int .u8 ((u : Int) / 256 % 256), .int .u8 ((u : Int) % 256), .int .u8 ((ct : Int) - 1)]) hb4 (Holds.new _ _ _) rfl hne4 (by intro u hu; simp at hu; rcases hu with rfl | rfl | rfl | rfl <;> rfl) (by rw [Lib.byteCells_length]; omega) (by simp; omega)).mono ?_
        rintro e w6 ⟨⟨r6, rfl⟩, v6, hb6, hR6⟩
        have hlr : ∀ k, v.ownBlock = some k → w1.heap.size ≤ k ∧ k < wr.heap.size := fun k e => hb.row.lt k e
        have h26 := hR6.holds (h24.alloc _) (by omega) (fun e => by have := hlr _ e; omega)
        have he : ∀ args w, (callFunc kn args).run Try.prog w = .ok (.enter kn args) w := by
          rcases hkn with rfl | rfl
          · exact enters_of Try.func69 (by kernel_rfl) rfl
          · exact enters_of Try.func71 (by kernel_rfl) rfl
        have hs6 := hR6.size
        rw [World.size_alloc] at hs6
        have hbo6 := fun W => hbo kn kr kz W w3 w4 hkv
        clear hbo hki hct hkn hrng hW1 h1 hB1 hO2 hB2 h2 hB3 hB4 hc24 h24 hkv
        go_wp2_with (first
          | (refine wpList_ldPC rfl _ rfl rfl h26 hC ?_)
          | (go_at_call 56; refine (writeS_any _ (hb6.below hB7) (by simp only [List.length_append, Lib.byteCells_length, List.length_cons, List.length_nil]; show _ + bo.toArray.size ≤ _; simp; omega) (by have := hB7.size; omega)).mono ?_; rintro e w8 ⟨⟨r8, rfl⟩, v8, hb8, hR8⟩)
          | (refine (hbo6 _).mono ?_; rintro e w7 ⟨rfl, hB7⟩))
        have hlr6 : ∀ k, v6.ownBlock = some k → w1.heap.size ≤ k := fun k e => (hb6.row.lt k e).1
        have hs7 := hB7.size
        have hBall : Below w.heap.size wr w8 := by
          refine Below.trans (Below.trans (Below.trans (hBr4.mono (by omega)) ((below_new1 w4 _).mono (by omega))) (hR6.below (Nat.le_refl _) (fun k e => by have := hlr k e; omega) (by simp; omega))) (Below.trans (hB7.mono (by omega)) (hR8.below (Nat.le_refl _) (fun k e => by have := hlr6 k e; omega) (by omega)))
        have hg8 : w8.heap[g]? = wr.heap[g]? := by
          rw [hR8.block g (by omega) (by omega) (fun e => by have := hlr6 g e; omega), hB7.block g (by omega), hR6.block g (by simp; omega) (by omega) (fun e => by have := hlr g e; omega), Below.heap_alloc _ _ _ (by omega), hBr4.block g (by omega)]
        have hsz8 : w1.heap.size ≤ w8.heap.size := by have := hR8.size; omega
        go_roundw
        case rel =>
          refine ⟨i + 1, v8, by simp, by omega, ?_, hin'.keep hg8, hsz8, hBr.trans hBall⟩
          rw [HN.out, HP.out]
          have e : Lib.byteCells (doneB M us i ++ ([UInt8.ofNat (u / 65536), UInt8.ofNat (u / 256), UInt8.ofNat u, UInt8.ofNat (ct - 1)] ++ bo)) = Lib.byteCells (doneB M us i) ++ [.int .u8 ((u : Int) / 65536), .int .u8 ((u : Int) / 256 % 256), .int .u8 ((u : Int) % 256), .int .u8 ((ct : Int) - 1)] ++ Lib.strCells ⟨bo.toArray⟩ := by
            unfold Lib.byteCells Lib.strCells
            simp
            omega
          rw [e]
          exact hb8
        case measure => simp [intOf]; omega
      · have hii : ¬ (i : Int) < us.length := by omega
        obtain rfl : i = us.length := by omega
        rw [doneB_all] at hb
        have hS1 := hS wr _ _ _ hb (by omega)
        clear hS
        go_wp2_with (first | (go_at_call 57; refine hS1.mono ?_; rintro e w2 ⟨rfl, hB2⟩))
        go_ret
        exact ⟨rfl, hBr.trans hB2⟩
end Go.Proofs.Ytiokbhbggpibpaa
