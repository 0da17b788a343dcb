/-
  Texts of this claim, put together.
-/
import Derived.Test.YtjklcnknbcmgoaaGreatDoorGA
import Derived.Test.YtjklcnknbcmgoaaGreatDoorPNewW
import Derived.Test.YtjklcnknbcmgoaaGreatDoorDC
/-
  A meta is written on its device's slot.
-/
namespace Go.Proofs.YtjklcnknbcmgoaaGreatDoor
open Go Go.RowKit

def slotOf (t : Nat) : Int := if (t : Int) ≤ 0 then 0 else (t : Int) % 2
set_option maxRecDepth 8000 in
theorem gwm_any {w : World} {h : Hd} {D : Dev} (a : DiskAt w h D) {N : Nat} (ok : D.ok N) (hN : N < 1000000000) (m : K.M4) (hm : m.small) (hT : K.Tabs w) :
    Calls Tryz.prog 52 #[.pointer (some ⟨h.b, 0, none⟩), .agg (K.m4A m)] w fun e w' => e = .returned (.int .i64 (D.write (slotOf m.tx) (K.metaS m)).1) ∧ ∃ h', Done w h w' h' (D.write (slotOf m.tx) (K.metaS m)).2 := by
  unfold K.m4A
  obtain ⟨W0, hW0⟩ : ∃ W0, w.alloc (.cells #[.int .i64 m.tx, .int .i64 m.root, .int .i64 m.ents, .int .i64 m.pgs] 43) = W0 := ⟨_, rfl⟩
  obtain ⟨g, hg⟩ : ∃ g, w.heap.size = g := ⟨_, rfl⟩
  have hh := Holds.new w 43 #[.int .i64 m.tx, .int .i64 m.root, .int .i64 m.ents, .int .i64 m.pgs]
  have hB : Below w.heap.size w W0 := by rw [← hW0]; exact below_new1 _ _
  rw [hW0, hg] at hh
  have c0 : W0.cell? ⟨g, 0, none⟩ = some (.int .i64 m.tx) := hh.cell 0
  have c1 : W0.cell? ⟨g, 1, none⟩ = some (.int .i64 m.root) := hh.cell 1
  have c2 : W0.cell? ⟨g, 2, none⟩ = some (.int .i64 m.ents) := hh.cell 2
  have c3 : W0.cell? ⟨g, 3, none⟩ = some (.int .i64 m.pgs) := hh.cell 3
  have hmt := K.meta_any m hm W0 (hT.below hB)
  have hsl := fun w => K.slot_any m.tx w (by have := hm.1; omega)
  have a0 := a.below hB
  have HB : Hid (Below w.heap.size w W0 ∧ w.heap.size = g) := ⟨hB, hg⟩
  have hsz : -9223372036854775808 ≤ slotOf m.tx ∧ slotOf m.tx ≤ 9223372036854775807 := by unfold slotOf; split <;> omega
  obtain ⟨s, hs⟩ : ∃ s, slotOf m.tx = s := ⟨_, rfl⟩
  have hsl2 : ∀ w, Calls Tryz.prog 72 #[.int .i64 (m.tx : Nat)] w fun e w' => e = .returned (.int .i64 s) ∧ w' = w := fun w => by rw [← hs]; exact hsl w
  rw [hs] at hsz ⊢
  obtain ⟨T, hTe⟩ : ∃ T, K.metaS m = T := ⟨_, rfl⟩
  rw [hTe] at hmt ⊢
  clear hsl hB hh hs hTe hT
  generalize (m.tx : Int) = mt at *
  go_enter Tryz.func52, Tryz.ntmps52
  go_wp2_with fail
  refine hmt.mono ?_
  rintro e W1 ⟨rfl, hB1⟩
  have c0' : W1.cell? ⟨g, 0, none⟩ = some (.int .i64 mt) := (hB1.cell (World.block_lt_of_cell? W0 _ c0)).trans c0
  have a1 := a0.below hB1
  have hwr := write_any a1 ok hN s hsz T
  have HB1 : Hid (Below w.heap.size w W1) := below_new HB.out.1 hB1
  clear hmt hB1 c0 c1 c2 c3
  go_wp2_with fail
  refine (hsl2 _).mono ?_
  rintro e W2 ⟨rfl, rfl⟩
  go_wp2_with fail
  refine hwr.mono ?_
  rintro e W3 ⟨rfl, _, h', hd⟩
  have HD : Hid (Done w h W3 h' (D.write s T).2) := Done.ahead HB1.out hd
  clear hwr hd
  go_wp2_with fail
  go_ret
  exact ⟨rfl, h', HD.out⟩
end Go.Proofs.YtjklcnknbcmgoaaGreatDoor
/-
  A set of pages asked; a page written, and read, by a pager.
-/
namespace Go.Proofs.YtjklcnknbcmgoaaGreatDoor
open Go Go.RowKit

theorem wf_i64 {a : Int} (h : -9223372036854775808 ≤ a ∧ a ≤ 9223372036854775807) : (Lit.int .i64 a).wf = true := by
  simp only [Lit.wf, Bool.and_eq_true, decide_eq_true_eq]
  have h1 : IntKind.i64.min = -9223372036854775808 := rfl
  have h2 : IntKind.i64.max = 9223372036854775807 := rfl
  rw [h1, h2]
  exact h
abbrev SetV (w : World) (n : Nat) (mo : Option Nat) (S : Int → Option Unit) : Prop := MapV unitElem encU w n mo S
theorem sethas_any {w : World} {k : Nat} {mo : Option Nat} {S : Int → Option Unit} (hs : SetV w k mo S) (n : Int) (hn : (Lit.int .i64 n).wf = true) :
    Calls Tryz.prog 47 #[.map mo, .int .i64 n] w fun e w' => e = .returned (.bool (S n).isSome) ∧ Below w.heap.size w w' := by
  have hl : (Instr.lookup 69 (.map mo) (.int .i64 n) true).run Tryz.prog w = .ok (.tuple #[.agg #[], .bool (S n).isSome]) w := by
    have := hs.look elemU Tryz.underlying69 (zeroU w) hn true
    simpa [mkU] using this
  generalize (S n).isSome = r at hl
  go_enter Tryz.func47, Tryz.ntmps47
  go_wp2_with fail
  go_ret
  exact ⟨rfl, below_new1 _ _⟩
/-- What Write tells, and the device then. -/
noncomputable def gwr (P : Pgr) (S : Int → Option Unit) (D : Dev) (n : Int) (k : UInt8) (s : ByteArray) : Int × Dev :=
  if P.broken = true then (13, D) else if (S n).isSome = false then (1, D) else if 1013 < s.size then (11, D) else D.write n (K.sealS k s)
set_option maxRecDepth 8000 in
theorem gwrite_any {w : World} {b : Nat} {h : Pgh} {P : Pgr} (hp : PgCells w b h P) {hd : Hd} {D : Dev} (hdev : h.dev = hd.b) (a : DiskAt w hd D) {N : Nat} (ok : D.ok N) (hN : N < 1000000000) {nf : Nat} {S : Int → Option Unit} (hs : SetV w nf (some h.fresh) S) (hT : K.Tabs w)
    (n : Int) (hn : -9223372036854775808 ≤ n ∧ n ≤ 9223372036854775807) (k : UInt8) (s : ByteArray) :
    Calls Tryz.prog 24 #[.pointer (some ⟨b, 0, none⟩), .int .i64 n, .int .u8 (K.oct k), .string s] w fun e w' => e = .returned (.int .i64 (gwr P S D n k s).1) ∧ ∃ hd', Done w hd w' hd' (gwr P S D n k s).2 := by
  have hq := pg_eql
  have hnot := run_not
  have c11 : w.cell? ⟨b, 11, none⟩ = some (.bool P.broken) := hp.cell 11
  have c9 : w.cell? ⟨b, 9, none⟩ = some (.map (some h.fresh)) := hp.cell 9
  have c0 : w.cell? ⟨b, 0, none⟩ = some (.pointer (some ⟨hd.b, 0, none⟩)) := by have := hp.cell 0; rw [← hdev]; exact this
  have hsh := sethas_any hs n (wf_i64 hn)
  unfold gwr
  generalize P.broken = br at c11 ⊢
  generalize (S n).isSome = is at hsh ⊢
  cases br with
  | true =>
    rw [if_pos rfl]
    go_enter Tryz.func24, Tryz.ntmps24
    go_wp2_with fail
    go_ret
    exact ⟨rfl, hd, Done.refl a⟩
  | false =>
    rw [if_neg (by simp)]
    cases is with
    | false =>
      rw [if_pos rfl]
      go_enter Tryz.func24, Tryz.ntmps24
      go_wp2_with fail
      refine hsh.mono ?_
      rintro e w1 ⟨rfl, hB1⟩
      clear hsh
      go_wp2_with fail
      go_ret
      exact ⟨rfl, hd, (Done.refl a).below hB1⟩
    | true =>
      rw [if_neg (by simp)]
      by_cases hl : 1013 < s.size
      · rw [if_pos hl]
        go_enter Tryz.func24, Tryz.ntmps24
        go_wp2_with fail
        refine hsh.mono ?_
        rintro e w1 ⟨rfl, hB1⟩
        have hsn := K.seal_no k s w1 hl
        clear hsh
        go_wp2_with fail
        refine hsn.mono ?_
        rintro e w2 ⟨rfl, hB2⟩
        clear hsn
        go_wp2_with fail
        go_ret
        exact ⟨rfl, hd, (Done.refl a).below (below_new hB1 hB2)⟩
      · rw [if_neg hl]
        obtain ⟨T, hTe⟩ : ∃ T, K.sealS k s = T := ⟨_, rfl⟩
        rw [hTe]
        go_enter Tryz.func24, Tryz.ntmps24
        go_wp2_with fail
        refine hsh.mono ?_
        rintro e w1 ⟨rfl, hB1⟩
        have hsn := K.seal_any k s w1 (hT.below hB1) (by omega)
        rw [hTe] at hsn
        clear hsh
        go_wp2_with fail
        refine hsn.mono ?_
        rintro e w2 ⟨rfl, hB2⟩
        have hB12 := below_new hB1 hB2
        have c0' : w2.cell? ⟨b, 0, none⟩ = some (.pointer (some ⟨hd.b, 0, none⟩)) := (hB12.cell (World.block_lt_of_cell? w _ c0)).trans c0
        have hwr := write_any (a.below hB12) ok hN n hn T
        clear hsn
        go_wp2_with fail
        refine hwr.mono ?_
        rintro e w3 ⟨rfl, _, h', hdn⟩
        clear hwr
        go_wp2_with fail
        go_ret
        exact ⟨rfl, h', Done.ahead hB12 hdn⟩
end Go.Proofs.YtjklcnknbcmgoaaGreatDoor
/-
  A page read by a pager.
-/
namespace Go.Proofs.YtjklcnknbcmgoaaGreatDoor
open Go Go.RowKit

theorem tabs_keep {S : Nat → Prop} {w w' : World} (h : K.Tabs w) (k : Keep S w w') (hS : ∀ i, S i → 4 ≤ i) : K.Tabs w' := by
  have hs := h.size
  have no : ∀ i, i < 4 → ¬ S i := fun i hi q => by have := hS i q; omega
  exact ⟨Nat.le_trans hs k.size,
    fun i hi => (World.cell?_of_block (w := w) (k.block 1 (by omega) (no _ (by omega)))).trans (h.rc i hi),
    fun i hi => (World.cell?_of_block (w := w) (k.block 2 (by omega) (no _ (by omega)))).trans (h.off i hi),
    fun i hi => (World.cell?_of_block (w := w) (k.block 3 (by omega) (no _ (by omega)))).trans (h.tgt i hi)⟩
/-- What Read tells, and how many Reads went through then. -/
noncomputable def grdV (D : Dev) (n : Int) : Value := if (D.read n).2.1 ≠ 0 then .tuple #[.int .u8 0, .string ⟨#[]⟩, .int .i64 (D.read n).2.1] else .tuple #[K.openK (D.read n).1, K.openB (D.read n).1, K.openE (D.read n).1]
noncomputable def grdN (P : Pgr) (D : Dev) (n : Int) : Int := if (D.read n).2.1 = 0 ∧ (K.openS (D.read n).1).isSome = true then P.reads + 1 else P.reads
set_option maxRecDepth 8000 in
theorem gread_any {w : World} {b : Nat} {h : Pgh} {P : Pgr} (hp : PgCells w b h P) {hd : Hd} {D : Dev} (hdev : h.dev = hd.b) (a : DiskAt w hd D) (hb : ¬ Blk hd b) {N : Nat} (ok : D.ok N) (hN : N < 1000000000) (hT : K.Tabs w) (hF : ∀ k, Foot hd k → 4 ≤ k) (hr : 0 ≤ P.reads ∧ P.reads < 9223372036854775807)
    (n : Int) (hn : -9223372036854775808 ≤ n ∧ n ≤ 9223372036854775807) (ht : (D.read n).1.size ≤ 9223372036854775807) :
    Calls Tryz.prog 23 #[.pointer (some ⟨b, 0, none⟩), .int .i64 n] w fun e w' => e = .returned (grdV D n) ∧ DiskAt w' hd (D.read n).2.2 ∧ PgCells w' b h { P with reads := grdN P D n } ∧ Keep (fun k => Foot hd k ∨ k = b) w w' := by
  have hq := pg_eql
  have c0 : w.cell? ⟨b, 0, none⟩ = some (.pointer (some ⟨hd.b, 0, none⟩)) := by have := hp.cell 0; rw [← hdev]; exact this
  have hrd := read_any a ok hN n hn
  have hbF : ¬ Foot hd b := fun q => hb q.blk
  unfold grdV grdN
  obtain ⟨⟨t, er, D1⟩, hR⟩ : ∃ R, D.read n = R := ⟨_, rfl⟩
  rw [hR] at hrd ht ⊢
  dsimp only at hrd ht ⊢
  clear hR
  by_cases he : er = 0
  · rw [if_neg (by simpa using he)]
    subst he
    cases ho : K.openS t with
    | none =>
      obtain ⟨o1, o2, o3⟩ := K.open_no ho
      rw [if_neg (by simp), o1, o2, o3]
      go_enter Tryz.func23, Tryz.ntmps23
      go_wp2_with fail
      refine hrd.mono ?_
      rintro e w1 ⟨rfl, hd1⟩
      have hop := K.open_any t w1 (tabs_keep hT hd1.keep hF) ht
      rw [o1, o2, o3] at hop
      clear hrd
      go_wp2_with fail
      refine hop.mono ?_
      rintro e w2 ⟨rfl, hB2⟩
      have HF : Hid (DiskAt w2 hd D1 ∧ PgCells w2 b h P ∧ Keep (fun k => Foot hd k ∨ k = b) w w2) := ⟨hd1.at_.below hB2, below_holds hB2 (hd1.keep.holds hp hbF), (hd1.keep.mono fun _ q => Or.inl q).trans (Keep.below (S := fun _ => False) hB2) (fun _ q => q.elim)⟩
      clear hop hd1 hB2
      go_wp2_with fail
      go_ret3
      exact ⟨rfl, HF.out⟩
    | some kb =>
      obtain ⟨k, bd⟩ := kb
      have o1 : K.openK t = .int .u8 (K.oct k) := by unfold K.openK; rw [ho]
      have o2 : K.openB t = .string bd := by unfold K.openB; rw [ho]
      have o3 : K.openE t = .int .i64 0 := by unfold K.openE; rw [ho]
      rw [if_pos ⟨rfl, rfl⟩, o1, o2, o3]
      go_enter Tryz.func23, Tryz.ntmps23
      go_wp2_with fail
      refine hrd.mono ?_
      rintro e w1 ⟨rfl, hd1⟩
      have hop := K.open_any t w1 (tabs_keep hT hd1.keep hF) ht
      rw [o1, o2, o3] at hop
      clear hrd
      go_wp2_with fail
      refine hop.mono ?_
      rintro e w2 ⟨rfl, hB2⟩
      have hp2 : Holds w2 b 89 (pgCells h P) := below_holds hB2 (hd1.keep.holds hp hbF)
      have ha := reads_add ⟨b, 15, none⟩ P.reads w2 (hp2.cell 15) (hp2.frozen 15) hr
      have hO : Only b w2 (w2.setCell ⟨b, 15, none⟩ (.int .i64 (P.reads + 1))) := (Only.refl b w2).set 15 _
      have HF : Hid (DiskAt (w2.setCell ⟨b, 15, none⟩ (.int .i64 (P.reads + 1))) hd D1 ∧ PgCells (w2.setCell ⟨b, 15, none⟩ (.int .i64 (P.reads + 1))) b h { P with reads := P.reads + 1 } ∧ Keep (fun k => Foot hd k ∨ k = b) w (w2.setCell ⟨b, 15, none⟩ (.int .i64 (P.reads + 1)))) := by
        refine ⟨(hd1.at_.below hB2).keep (S := fun k => k = b) (Keep.only hO rfl) (fun k hk e => hb (e ▸ hk)), hp2.set 15 _, ?_⟩
        exact ((hd1.keep.mono fun _ q => Or.inl q).trans (Keep.below (S := fun _ => False) hB2) (fun _ q => q.elim)).trans (Keep.only (S := fun k => k = b) hO rfl) (fun _ q => Or.inl (Or.inr q))
      clear hop hd1 hB2 hO
      go_wp2_with fail
      refine ha.mono ?_
      rintro e w3 ⟨rfl, rfl⟩
      go_wp2_with fail
      go_ret3
      exact ⟨rfl, HF.out⟩
  · rw [if_pos he, if_neg (fun q => he q.1)]
    have hei : (er != 0) = true := by simpa using he
    go_enter Tryz.func23, Tryz.ntmps23
    go_wp2_with fail
    refine hrd.mono ?_
    rintro e w1 ⟨rfl, hd1⟩
    have HF : Hid (DiskAt w1 hd D1 ∧ PgCells w1 b h P ∧ Keep (fun k => Foot hd k ∨ k = b) w w1) := ⟨hd1.at_, hd1.keep.holds hp hbF, hd1.keep.mono fun _ q => Or.inl q⟩
    clear hrd hd1
    go_wp2_with fail
    go_ret3
    exact ⟨rfl, HF.out⟩
end Go.Proofs.YtjklcnknbcmgoaaGreatDoor
