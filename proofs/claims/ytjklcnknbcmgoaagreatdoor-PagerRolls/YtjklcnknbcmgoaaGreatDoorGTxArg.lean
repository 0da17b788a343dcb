/-
  Transactions among the arguments.
-/
import Derived.Test.YtjklcnknbcmgoaaGreatDoorGP
import Derived.ProofKit
import Derived.ChangeSlices
import Derived.ChangeOld
import Derived.LaidMore
import Derived.OpenShut
namespace Go.Proofs.YtjklcnknbcmgoaaGreatDoor
open Go Go.ChangeShapes Go.WideShapes Go.ChangeAt Go.RowKit

theorem list_of {α : Type} {P : Nat → α → Prop} : ∀ n, (∀ j, j < n → ∃ t, P j t) → ∃ L : List α, L.length = n ∧ ∀ j t, L[j]? = some t → P j t
  | 0, _ => ⟨[], rfl, fun j t h => by simp at h⟩
  | n + 1, h => by
    obtain ⟨L, h1, h2⟩ := list_of n (fun j hj => h j (by omega))
    obtain ⟨t, ht⟩ := h n (by omega)
    refine ⟨L ++ [t], by simp [h1], fun j u hu => ?_⟩
    by_cases hj : j < n
    · rw [List.getElem?_append_left (by omega)] at hu
      exact h2 j u hu
    · have hjn : j = n := by
        have := (List.getElem?_eq_some_iff.1 hu).1
        simp [h1] at this
        omega
      subst hjn
      rw [List.getElem?_append_right (by omega), h1, Nat.sub_self] at hu
      simp at hu
      rw [← hu]; exact ht
theorem underInt1 : Tryz.prog.underlying 3 = some (.int .i64) := by kernel_rfl
theorem cellsInt1 : Tryz.prog.cellsOf 3 = 1 := by kernel_rfl
theorem cellsU8a : Tryz.prog.cellsOf 5 = 1 := by kernel_rfl
theorem underU8a : Tryz.prog.underlying 5 = some (.int .u8) := by kernel_rfl
theorem underIntSlT : Tryz.prog.underlying 31 = some (.slice 3) := by kernel_rfl
theorem cellsIntSl : Tryz.prog.cellsOf 31 = 1 := by kernel_rfl
theorem cellsTx : Tryz.prog.cellsOf 36 = 7 := by kernel_rfl
theorem underTxs : Tryz.prog.underlying 22 = some (.slice 36) := by kernel_rfl
theorem addr_plain {w : World} {a : Addr} {v : Value} (h : w.cell? (a.add 0) = some v) : ∃ c o, a = ⟨c, o, none⟩ := by
  obtain ⟨c, o, sp⟩ := a
  cases sp with
  | none => exact ⟨c, o, rfl⟩
  | some s =>
    unfold Addr.add at h
    unfold World.cell? at h
    split at h <;> simp_all
theorem int_i64 {a : Int} (h : (Lit.int .i64 a).wf = true) : -9223372036854775808 ≤ a ∧ a ≤ 9223372036854775807 := by
  simp only [Lit.wf, Bool.and_eq_true, decide_eq_true_eq] at h
  have h1 : IntKind.i64.min = -9223372036854775808 := rfl
  have h2 : IntKind.i64.max = 9223372036854775807 := rfl
  rw [h1, h2] at h
  exact h
/-- A transaction of the law's, as data. -/
structure TxF where
  pg : Int
  fr : Int
  en : Int
  ar : Int
  fa : Int
  byte : UInt8
  p : Option Addr
  m : Nat
  c : Nat
  l : List Int
def i64In (x : Int) : Prop := -9223372036854775808 ≤ x ∧ x ≤ 9223372036854775807
def TxF.cells (t : TxF) : List Value := [.int .i64 t.pg, .int .i64 t.fr, .int .i64 t.en, .int .i64 t.ar, .int .i64 t.fa, .int .u8 (t.byte.toNat : Nat), .slice t.p t.m t.c]
structure TxF.ok (w : World) (t : TxF) : Prop where
  pg : i64In t.pg
  fr : i64In t.fr
  en : i64In t.en
  ar : i64In t.ar
  fa : i64In t.fa
  len : t.m = t.l.length
  cap : t.m ≤ t.c
  all : ∀ x ∈ t.l, i64In x
  ints : IntsAt w (.slice t.p t.m t.c) t.l
def TxsFull (w : World) (p : Option Addr) (n : Nat) (L : List TxF) : Prop :=
  n = L.length ∧ (∀ t ∈ L, t.ok w) ∧ (n = 0 ∨ ∃ b o, p = some ⟨b, o, none⟩ ∧ ∀ j t, L[j]? = some t → w.rangeAt b (o + j * 7) t.cells)
theorem TxsFull.at {w : World} {p : Option Addr} {n : Nat} {L : List TxF} (h : TxsFull w p n L) {j : Nat} {t : TxF} (ht : L[j]? = some t) :
    ∃ b o, p = some ⟨b, o, none⟩ ∧ ∀ w', Below w.heap.size w w' → w'.rangeAt b (o + j * 7) t.cells := by
  obtain ⟨h1, _, h2⟩ := h
  rcases h2 with h0 | ⟨b, o, rfl, h4⟩
  · have := (List.getElem?_eq_some_iff.1 ht).1
    omega
  · refine ⟨b, o, rfl, fun w' hB i v hv => ?_⟩
    have h5 := h4 j t ht i v hv
    rw [← h5]
    exact hB.cell (World.block_lt_of_cell? w _ h5)
theorem infoTx : (Tryz.prog.info? 36).map (·.size) = some 7 := by kernel_rfl
theorem ldTxF {w : World} {b o : Nat} {t : TxF} (h : w.rangeAt b o t.cells) : (loadVar 36 ⟨b, o, none⟩).run Tryz.prog w = .ok (.agg #[.int .i64 t.pg, .int .i64 t.fr, .int .i64 t.en, .int .i64 t.ar, .int .i64 t.fa, .int .u8 (t.byte.toNat : Nat), .slice t.p t.m t.c]) w :=
  run_loadVar_mid w b o 36 t.cells _ h Tryz.underlying36 rfl infoTx
theorem fieldsTx : ∃ f0 f1 f2 f3 f4 f5 f6 : Field, Tryz.prog.underlying 36 = some (.struct #[f0, f1, f2, f3, f4, f5, f6]) ∧ (f0.type = 3 ∧ f0.offset = 0) ∧ (f1.type = 3 ∧ f1.offset = 1) ∧ (f2.type = 3 ∧ f2.offset = 2) ∧ (f3.type = 3 ∧ f3.offset = 3) ∧ (f4.type = 3 ∧ f4.offset = 4) ∧ (f5.type = 5 ∧ f5.offset = 5) ∧ (f6.type = 31 ∧ f6.offset = 6) := ⟨_, _, _, _, _, _, _, Tryz.underlying36, ⟨rfl, rfl⟩, ⟨rfl, rfl⟩, ⟨rfl, rfl⟩, ⟨rfl, rfl⟩, ⟨rfl, rfl⟩, ⟨rfl, rfl⟩, ⟨rfl, rfl⟩⟩
set_option maxRecDepth 100000 in
theorem open_tx {H : Type} {enc : TypeId × Value → H} {w : World} (fuel : Nat) (cs : List Value) (x : DataW H × List MemPlace) (h : DataW.trod enc Tryz.prog w 0 (fun _ => true) true fuel 36 cs = some x) : ∃ t : TxF, t.ok w ∧ cs = t.cells := by
  obtain ⟨g0, g1, g2, g3, g4, g5, g6, hu, ⟨t0, o0⟩, ⟨t1, o1⟩, ⟨t2, o2⟩, ⟨t3, o3⟩, ⟨t4, o4⟩, ⟨t5, o5⟩, t6, o6⟩ := fieldsTx
  obtain ⟨xs, n, hn, rfl, hl, hlen, hf⟩ := DataW.trod_struct hu h
  rw [cellsTx] at hl
  have hx7 : xs.length = 7 := hlen
  match xs, hx7 with
  | [x0, x1, x2, x3, x4, x5, x6], _ =>
    have f0 := hf 0 g0 rfl
    have f1 := hf 1 g1 rfl
    have f2 := hf 2 g2 rfl
    have f3 := hf 3 g3 rfl
    have f4 := hf 4 g4 rfl
    have f5 := hf 5 g5 rfl
    have f6 := hf 6 g6 rfl
    rw [t0, o0, cellsInt1] at f0
    rw [t1, o1, cellsInt1] at f1
    rw [t2, o2, cellsInt1] at f2
    rw [t3, o3, cellsInt1] at f3
    rw [t4, o4, cellsInt1] at f4
    rw [t5, o5, cellsU8a] at f5
    rw [t6, o6, cellsIntSl] at f6
    match cs, hl with
    | [y0, y1, y2, y3, y4, y5, y6], _ =>
      simp only [List.take_succ_cons, List.take_zero, List.drop_succ_cons, List.drop_zero, List.getElem?_cons_succ, List.getElem?_cons_zero] at f0 f1 f2 f3 f4 f5 f6
      obtain ⟨k0, e0, _, w0⟩ := DataW.trod_int underInt1 f0
      obtain ⟨k1, e1, _, w1⟩ := DataW.trod_int underInt1 f1
      obtain ⟨k2, e2, _, w2⟩ := DataW.trod_int underInt1 f2
      obtain ⟨k3, e3, _, w3⟩ := DataW.trod_int underInt1 f3
      obtain ⟨k4, e4, _, w4⟩ := DataW.trod_int underInt1 f4
      obtain ⟨k5, e5, _, w5⟩ := DataW.trod_int underU8a f5
      injection e0 with e0 _
      injection e1 with e1 _
      injection e2 with e2 _
      injection e3 with e3 _
      injection e4 with e4 _
      injection e5 with e5 _
      have g5' : 0 ≤ k5 ∧ k5 ≤ 255 := by simpa [Lit.wf, IntKind.min, IntKind.max, IntKind.signed, IntKind.bits] using w5
      have hb : (.int .u8 k5 : Value) = .int .u8 ((UInt8.ofNat k5.toNat).toNat : Nat) := by
        rw [show (UInt8.ofNat k5.toNat).toNat = k5.toNat by rw [UInt8.toNat_ofNat']; omega, Int.toNat_of_nonneg g5'.1]
      rcases open_ints underIntSlT underInt1 cellsInt1 f6 with ⟨hcs, _⟩ | ⟨a, len, cap, zs, hcs, _, hlc, hm, hz', hx3, hcell, hwf⟩
      · injection hcs with hcs _
        refine ⟨⟨k0, k1, k2, k3, k4, UInt8.ofNat k5.toNat, none, 0, 0, []⟩, ⟨int_i64 w0, int_i64 w1, int_i64 w2, int_i64 w3, int_i64 w4, rfl, Nat.le_refl _, (fun x hx => by cases hx), .inl ⟨rfl, none, 0, rfl⟩⟩, ?_⟩
        rw [e0, e1, e2, e3, e4, e5, hcs, hb]
        rfl
      · injection hcs with hcs _
        simp only [if_true] at hz'
        have hlen : (zs.take len).length = len := by rw [List.length_take]; omega
        refine ⟨⟨k0, k1, k2, k3, k4, UInt8.ofNat k5.toNat, some a, len, cap, zs.take len⟩, ⟨int_i64 w0, int_i64 w1, int_i64 w2, int_i64 w3, int_i64 w4, hlen.symm, hlc, fun x hx => int_i64 (hwf x (List.mem_of_mem_take hx)), ?_⟩, ?_⟩
        · by_cases h0 : len = 0
          · subst h0
            exact .inl ⟨by simp, _, _, rfl⟩
          · obtain ⟨cc, o, rfl⟩ := addr_plain (hcell 0 (by omega))
            refine .inr ⟨cc, o, cap, by rw [hlen], fun i hi => ?_⟩
            dsimp only at hi ⊢
            rw [hlen] at hi
            have h1 := hcell i (by omega)
            rw [Addr.add_mid] at h1
            rw [h1]
            simp [List.getD_eq_getElem?_getD, hi]
        · rw [e0, e1, e2, e3, e4, e5, hcs, hb]
          rfl
set_option maxRecDepth 100000 in
theorem open_txs {H : Type} {enc : TypeId × Value → H} {w : World} {b0 : Nat} {r : Reach} {v : Value} {d : DataW H} {p : List MemPlace}
    (hv : Value.okWide Tryz.prog w r b0 22 v) (h : DataW.Trod enc Tryz.prog w 0 (fun _ => true) true 22 v d p) :
    ∃ (a : Option Addr) (n c : Nat) (L : List TxF), v = .slice a n c ∧ TxsFull w a n L ∧ n ≤ c ∧ c ≤ 9223372036854775807 := by
  obtain ⟨a0, len, cap, rfl⟩ := okWide_slice underTxs hv
  obtain ⟨fuel, hf⟩ := h
  rcases DataW.trod_slice underTxs hf with ⟨hc, _⟩ | ⟨a, len', cap', elems, rest, m, hm, hc, hx, _, hlc, hcm, hel, hall, _, _⟩
  · simp [Value.cells] at hc
    obtain ⟨rfl, rfl, rfl⟩ := hc
    exact ⟨none, 0, 0, [], rfl, ⟨rfl, (fun t ht => by cases ht), .inl rfl⟩, by omega, by omega⟩
  · simp [Value.cells] at hc
    obtain ⟨rfl, rfl, rfl⟩ := hc
    rw [cellsTx] at hall
    have key : ∀ j, j < len → ∃ t : TxF, t.ok w ∧ ∀ i v, t.cells[i]? = some v → w.cell? ((a.add (j * 7)).add i) = some v := fun j hj => by
      have h1 := hall j hj
      rw [List.getElem?_eq_getElem (by omega)] at h1
      obtain ⟨cs2, h2, h3⟩ := Option.bind_eq_some_iff.1 h1
      obtain ⟨t, ht, rfl⟩ := open_tx m cs2 _ h3
      have hq := (World.cells?_some h2).2.2
      refine ⟨t, ht, fun i v hv => ?_⟩
      have hi : i < 7 := (List.getElem?_eq_some_iff.1 hv).1
      rw [← hv]
      exact hq i hi
    obtain ⟨L, hL1, hL2⟩ := list_of len key
    refine ⟨some a, len, cap, L, rfl, ⟨hL1.symm, fun t ht => ?_, ?_⟩, hlc, by unfold maxLen at hcm; omega⟩
    · obtain ⟨j, hj⟩ := List.mem_iff_getElem?.1 ht
      exact (hL2 j t hj).1
    by_cases h0 : len = 0
    · exact .inl h0
    · right
      obtain ⟨bk, o, spot⟩ := a
      obtain ⟨t, _, ht⟩ := key 0 (by omega)
      have hspot : spot = none := by simpa [Addr.add] using World.cell?_spot (ht 0 _ rfl)
      subst hspot
      refine ⟨bk, o, rfl, fun j t hj i v hv => ?_⟩
      have q := (hL2 j t hj).2 i v hv
      rw [Addr.add_mid, Addr.add_mid] at q
      exact q
end Go.Proofs.YtjklcnknbcmgoaaGreatDoor
