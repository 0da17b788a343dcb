/-
  The builder that Bytes writes into: copyCheck, Write, WriteString.
-/
import Derived.Test.YtdfpnpjdiebniaaBGA
import Derived.Test.YtdfpnpjdiebniaaShelf
import Derived.Lib.Builder
import Derived.Lib.AppendStr
import Derived.Lib.UnsafeStr
import Derived.Laws.Externs
namespace Go.Proofs.Ytdfpnpjdiebniaa
open Go Go.RowKit Go.Maps

theorem sizeBld : (Try.prog.info? 88).map (·.size) = some 2 := by kernel_rfl
theorem liesBld : liesAt Try.prog Try.prog.depth 88 (2 / Try.prog.cellsOf 88) 0 88 1 = true := by kernel_rfl
theorem underPB : Try.prog.underlying 85 = some (.pointer 88) := by kernel_rfl
theorem underUn : Try.prog.underlying 112 = some .unsafePointer := by kernel_rfl

set_option maxHeartbeats 1000000 in
set_option maxRecDepth 100000 in
theorem copy_used (b : Nat) (w : World) (h0 : w.cell? ⟨b, 0, none⟩ = some (.pointer (some ⟨b, 0, none⟩))) :
    Calls Try.prog 73 #[.pointer (some ⟨b, 0, none⟩)] w fun e w' => e = .returned (.tuple #[]) ∧ w' = w := by
  obtain ⟨j, hj, _⟩ := Option.map_eq_some_iff.1 sizeBld
  go_enter Try.func73, Try.ntmps73
  go_wp2
  rw [Lib.run_neq_ptr_same w _ underPB hj]
  go_wp2
  go_end0
  exact ⟨rfl, rfl⟩

set_option maxHeartbeats 1000000 in
set_option maxRecDepth 100000 in
theorem copy_fresh (b : Nat) (w : World) (h0 : w.cell? ⟨b, 0, none⟩ = some (.pointer none)) (hsh : w.shape? b = some (88, 2)) (hfz : w.frozen? ⟨b, 0, none⟩ = false) :
    Calls Try.prog 73 #[.pointer (some ⟨b, 0, none⟩)] w fun e w' => e = .returned (.tuple #[]) ∧ w' = w.setCell ⟨b, 0, none⟩ (.pointer (some ⟨b, 0, none⟩)) := by
  obtain ⟨j, hj, hjs⟩ := Option.map_eq_some_iff.1 sizeBld
  go_enter Try.func73, Try.ntmps73
  go_wp2
  rw [Lib.run_to_unsafe w ⟨b, 0, none⟩ underPB underUn hj (by rw [hjs]; decide) hsh (Nat.zero_lt_succ 1)]
  simp only [Result.andThen]
  rw [Oper.upon_value]
  go_wp2
  rw [run_callFunc_extern Try.func77 (by kernel_rfl) (by kernel_rfl) (by kernel_rfl) (e := Extern.AbiNoEscape.same) (by kernel_rfl)]
  rw [Lib.run_noEscape]
  simp only [Result.andThen]
  rw [Oper.upon_value]
  go_wp2
  rw [Lib.run_from_unsafe w ⟨b, 0, none⟩ underUn underPB hj hsh liesBld]
  simp only [Result.andThen]
  rw [Oper.upon_value]
  go_wp2
  go_end0
  exact ⟨rfl, rfl⟩

/-- A builder in block b; its row, if it has one, lies from n on. -/
structure Bld (w : World) (b n : Nat) (v : Value) (bs : List Value) : Prop where
  lt : b < n
  blk : ∃ p, (p = .pointer none ∨ p = .pointer (some ⟨b, 0, none⟩)) ∧ Holds w b 88 #[p, v]
  row : w.ownsRow n 5 1 v bs.length bs
/-- What changes but a builder's blocks: nothing. -/
structure OnlyR (b : Nat) (v : Value) (w w' : World) : Prop where
  os : w'.os = w.os
  tape : w'.tape = w.tape
  output : w'.output = w.output
  size : w.heap.size ≤ w'.heap.size
  block : ∀ k, k < w.heap.size → k ≠ b → v.ownBlock ≠ some k → w'.heap[k]? = w.heap[k]?
theorem Bld.below {w w' : World} {b n : Nat} {v : Value} {bs : List Value} (h : Bld w b n v bs) (hb : Below w.heap.size w w') : Bld w' b n v bs := by
  obtain ⟨h1, ⟨p, h2, h3⟩, h4⟩ := h
  exact ⟨h1, ⟨p, h2, below_holds hb h3⟩, ownsRow_below hb h4⟩
theorem Bld.is {w : World} {b n : Nat} {v : Value} {bs : List Value} (h : Bld w b n v bs) : Lib.IsBuilder 88 5 b b bs w := by
  obtain ⟨h1, ⟨p, h2, h3⟩, h4⟩ := h
  have hr : w.ownsRow b 5 1 v bs.length bs := by
    refine ⟨h4.1, ?_⟩
    rcases h4.2 with h | ⟨g, cap, cur, q1, q2, q3⟩
    · exact .inl h
    · exact .inr ⟨g, cap, cur, q1, by omega, q3⟩
  have hne : v.ownBlock ≠ some b := fun e => by have := (h4.lt b e).1; omega
  rcases h2 with rfl | rfl
  · exact .inl ⟨Nat.le_refl _, v, h3, hr, hne⟩
  · exact .inr ⟨Nat.le_refl _, v, h3, hr, hne⟩
theorem Bld.ne {w : World} {b n : Nat} {v : Value} {bs : List Value} (h : Bld w b n v bs) : v.ownBlock ≠ some b := fun e => by have := (h.row.lt b e).1; have := h.lt; omega
theorem OnlyR.below {b n : Nat} {v : Value} {w w' : World} (k : OnlyR b v w w') (h : n ≤ b) (hv : ∀ k, v.ownBlock = some k → n ≤ k) (hn : n ≤ w.heap.size) : Below n w w' :=
  ⟨k.os, k.tape, k.output, k.size, fun i hi => k.block i (by omega) (by omega) (fun e => by have := hv i e; omega)⟩
theorem OnlyR.holds {b c : Nat} {v : Value} {w w' : World} {t : TypeId} {cs : Array Value} (k : OnlyR b v w w') (h : Holds w c t cs) (hb : c ≠ b) (hv : v.ownBlock ≠ some c) : Holds w' c t cs := by
  have := h.lt
  unfold Holds at *
  rw [k.block c this hb hv]; exact h

theorem copy_any {b n : Nat} {v : Value} {bs : List Value} {w : World} (h : Bld w b n v bs) :
    Calls Try.prog 73 #[.pointer (some ⟨b, 0, none⟩)] w fun e w' => e = .returned (.tuple #[]) ∧ Bld w' b n v bs ∧ Holds w' b 88 #[.pointer (some ⟨b, 0, none⟩), v] ∧ Only b w w' := by
  have hne := h.ne
  obtain ⟨h1, ⟨p, h2, h3⟩, h4⟩ := h
  rcases h2 with rfl | rfl
  · refine (copy_fresh b w (h3.cell 0) (by unfold Holds at h3; simp [World.shape?, h3]) (h3.frozen 0)).mono ?_
    rintro e w' ⟨rfl, rfl⟩
    have hs := h3.set 0 (.pointer (some ⟨b, 0, none⟩))
    have ho : Only b w (w.setCell ⟨b, 0, none⟩ (.pointer (some ⟨b, 0, none⟩))) := (Only.refl b w).set 0 _
    exact ⟨rfl, ⟨h1, ⟨_, .inr rfl, hs⟩, h4.kept (row := some b) ⟨ho.os, ho.tape, ho.output, ho.size, fun i hi hx => ho.block i hi fun q => hx (by rw [q])⟩ (.inr hne)⟩, hs, ho⟩
  · refine (copy_used b w (h3.cell 0)).mono ?_
    rintro e w' ⟨rfl, rfl⟩
    exact ⟨rfl, ⟨h1, ⟨_, .inr rfl, h3⟩, h4⟩, h3, Only.refl _ _⟩

theorem bld_put {b n : Nat} {v v' p : Value} {bs bs' : List Value} {w w1 w2 : World} (hb : b < n) (hO : Only b w w1) (hbk : Holds w1 b 88 #[p, v]) (hp : p = .pointer none ∨ p = .pointer (some ⟨b, 0, none⟩)) (hown : w1.ownsRow n 5 1 v bs.length bs) (hown' : w2.ownsRow n 5 1 v' bs'.length bs') (hg : w1.grownBy w2 v.ownBlock) :
    Bld (w2.setCell ⟨b, 1, none⟩ v') b n v' bs' ∧ OnlyR b v w (w2.setCell ⟨b, 1, none⟩ v') := by
  have hne : some b ≠ v.ownBlock := fun e => by have := (hown.lt b e.symm).1; omega
  have hne' : v'.ownBlock ≠ some b := fun e => by have := (hown'.lt b e).1; omega
  have hb2 : Holds w2 b 88 #[p, v] := by
    have := hbk.lt
    unfold Holds at *
    rw [hg.block b this hne]; exact hbk
  have ho : Only b w2 (w2.setCell ⟨b, 1, none⟩ v') := (Only.refl b w2).set 1 _
  refine ⟨⟨hb, ⟨p, hp, hb2.set 1 _⟩, hown'.kept (row := some b) ⟨ho.os, ho.tape, ho.output, ho.size, fun i hi hx => ho.block i hi fun q => hx (by rw [q])⟩ (.inr hne')⟩, ⟨?_, ?_, ?_, ?_, fun k hk h1 h2 => ?_⟩⟩
  · exact (ho.os.trans hg.os).trans hO.os
  · exact (ho.tape.trans hg.tape).trans hO.tape
  · exact (ho.output.trans hg.output).trans hO.output
  · exact Nat.le_trans hO.size (Nat.le_trans hg.size ho.size)
  · have hs := hO.size
    have hs2 := hg.size
    rw [ho.block k (by omega) h1, hg.block k (by omega) (fun e => h2 e.symm), hO.block k hk h1]

set_option maxHeartbeats 2000000 in
set_option maxRecDepth 8000 in
theorem writeS_any {b n : Nat} {v : Value} {bs : List Value} (s : ByteArray) {w : World} (h : Bld w b n v bs) (hlen : bs.length + s.size ≤ 140737488355328) (hBw : n ≤ w.heap.size) :
    Calls Try.prog 56 #[.pointer (some ⟨b, 0, none⟩), .string s] w fun e w' => (∃ r, e = .returned r) ∧ ∃ v', Bld w' b n v' (bs ++ Lib.strCells s) ∧ OnlyR b v w w' := by
  obtain ⟨i0, hi, hz0, hz1, hz2⟩ := info_parts info5
  go_enter Try.func56, Try.ntmps56
  go_wp2_with (go_at_call 73; refine (copy_any h).mono ?_)
  rintro e w1 ⟨rfl, h1, hbk, hO1⟩
  have hown := h1.row
  have c0 : w1.cell? ⟨b, 0, none⟩ = some (.pointer (some ⟨b, 0, none⟩)) := hbk.cell 0
  have c1 : w1.cell? ⟨b, 1, none⟩ = some v := hbk.cell 1
  go_wp2_with (at_builtin; refine Lib.wpList_append_own_string _ rfl _ _ 86 9 rfl n 5 i0 underBytes Try.underlying9 hi hz0 hz1 hz2 _ _ _ rfl hown s rfl ?c3 ?c4 ?c5 ?_)
  case c3 => unfold maxLen; omega
  case c4 => omega
  case c5 => have := hO1.size; omega
  intro v' w2 hown' hgrow _
  have hne := h1.ne
  have hb2 : Holds w2 b 88 #[.pointer (some ⟨b, 0, none⟩), v] := by
    have := hbk.lt
    unfold Holds at *
    rw [hgrow.block b this (fun e => hne e.symm)]; exact hbk
  have d0 : w2.cell? ⟨b, 0, none⟩ = some (.pointer (some ⟨b, 0, none⟩)) := hb2.cell 0
  have d1 : w2.cell? ⟨b, 1, none⟩ = some v := hb2.cell 1
  have f1 : w2.frozen? ⟨b, 1, none⟩ = false := hb2.frozen 1
  obtain ⟨ao, n', cap, rfl⟩ : ∃ ao n' cap, v' = .slice ao n' cap := by
    rcases hown'.2 with ⟨hv, _⟩ | ⟨g, cap, cur, hv, _⟩
    · exact ⟨_, _, _, hv⟩
    · exact ⟨_, _, _, hv⟩
  go_wp2
  go_ret2
  exact ⟨⟨_, rfl⟩, _, bld_put h.lt hO1 hbk (.inr rfl) hown (by simpa [Lib.strCells_length] using hown') hgrow⟩

set_option maxHeartbeats 2000000 in
set_option maxRecDepth 8000 in
/-- Write, of a new slice's bytes. -/
theorem write_any {b n : Nat} {v : Value} {bs : List Value} {g m : Nat} {news : Array Value} {w : World} (h : Bld w b n v bs) (hg : Holds w g 5 news) (hm : news.size = m) (hgb : g ≠ b) (h1 : ∀ u ∈ news.toList, u.oneCell' = true)
    (hlen : bs.length + m ≤ 140737488355328) (hBw : n ≤ w.heap.size) :
    Calls Try.prog 55 #[.pointer (some ⟨b, 0, none⟩), .slice (some ⟨g, 0, none⟩) m m] w fun e w' => (∃ r, e = .returned r) ∧ ∃ v', Bld w' b n v' (bs ++ news.toList) ∧ OnlyR b v w w' := by
  obtain ⟨i0, hi, hz0, hz1, hz2⟩ := info_parts info5
  go_enter Try.func55, Try.ntmps55
  go_wp2_with (go_at_call 73; refine (copy_any h).mono ?_)
  rintro e w1 ⟨rfl, h1', hbk, hO1⟩
  have hown := h1'.row
  have c0 : w1.cell? ⟨b, 0, none⟩ = some (.pointer (some ⟨b, 0, none⟩)) := hbk.cell 0
  have c1 : w1.cell? ⟨b, 1, none⟩ = some v := hbk.cell 1
  have hg1 := hO1.holds hg hgb
  have hnews1 : ∀ j u, news.toList[j]? = some u → w1.cell? ((⟨g, 0, none⟩ : Addr).add j) = some u := fun j u hj => by
    have := hg1.cell j
    rw [show (⟨g, 0, none⟩ : Addr).add j = ⟨g, j, none⟩ by simp [Addr.add]; omega, this]
    simpa using hj
  go_wp2_with (at_builtin; refine wpList_append_own _ rfl _ _ 86 rfl n 5 i0 (.int .u8 0) 1 1 underBytes hi hz0 hz1 hz2 rfl (by decide) _ _ _ rfl hown ⟨g, 0, none⟩ m m news.toList rfl (by simp [hm]) hnews1 h1 ?c3 ?c4 ?c5 ?_)
  case c3 => unfold maxLen; omega
  case c4 => omega
  case c5 => have := hO1.size; omega
  intro v' w2 hown' hgrow _
  have hne := h1'.ne
  have hb2 : Holds w2 b 88 #[.pointer (some ⟨b, 0, none⟩), v] := by
    have := hbk.lt
    unfold Holds at *
    rw [hgrow.block b this (fun e => hne e.symm)]; exact hbk
  have d0 : w2.cell? ⟨b, 0, none⟩ = some (.pointer (some ⟨b, 0, none⟩)) := hb2.cell 0
  have d1 : w2.cell? ⟨b, 1, none⟩ = some v := hb2.cell 1
  have f1 : w2.frozen? ⟨b, 1, none⟩ = false := hb2.frozen 1
  obtain ⟨ao, n', cap, rfl⟩ : ∃ ao n' cap, v' = .slice ao n' cap := by
    rcases hown'.2 with ⟨hv, _⟩ | ⟨g, cap, cur, hv, _⟩
    · exact ⟨_, _, _, hv⟩
    · exact ⟨_, _, _, hv⟩
  go_wp2
  go_ret2
  exact ⟨⟨_, rfl⟩, _, bld_put h.lt hO1 hbk (.inr rfl) hown (by simpa [hm] using hown') hgrow⟩
end Go.Proofs.Ytdfpnpjdiebniaa
