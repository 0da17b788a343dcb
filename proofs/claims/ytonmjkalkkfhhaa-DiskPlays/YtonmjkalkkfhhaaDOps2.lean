/-
  Scripts of calls among the arguments, whole: of each call its kind, number, byte and list.
-/
import Derived.Test.YtonmjkalkkfhhaaDOpsArg
import Derived.HandedShaped
namespace Go.Proofs.Ytonmjkalkkfhhaa
open Go Go.ChangeShapes Go.WideShapes Go.ChangeAt Go.RowKit

structure OpF where
  kind : Int
  n : Int
  byte : UInt8
  p : Option Addr
  m : Nat
  c : Nat
  l : List Int
def i64In (x : Int) : Prop := -9223372036854775808 ≤ x ∧ x ≤ 9223372036854775807
/-- A call's parts are as any may be. -/
structure OpF.ok (w : World) (t : OpF) : Prop where
  kind : i64In t.kind
  n : i64In t.n
  len : t.m = t.l.length
  cap : t.m ≤ t.c
  all : ∀ x ∈ t.l, i64In x
  ints : IntsAt w (.slice t.p t.m t.c) t.l
  short : t.l.length ≤ 17592186044416
def OpF.cells (t : OpF) : List Value := [.int .i64 t.kind, .int .i64 t.n, .int .u8 (t.byte.toNat : Nat), .slice t.p t.m t.c]
def OpsFull (w : World) (p : Option Addr) (n : Nat) (L : List OpF) : Prop :=
  n = L.length ∧ (∀ t ∈ L, t.ok w) ∧ (n = 0 ∨ ∃ b o, p = some ⟨b, o, none⟩ ∧ ∀ j t, L[j]? = some t → w.cell? ⟨b, o + j * 4, none⟩ = some (.int .i64 t.kind) ∧ w.cell? ⟨b, o + j * 4 + 1, none⟩ = some (.int .i64 t.n) ∧ w.cell? ⟨b, o + j * 4 + 2, none⟩ = some (.int .u8 (t.byte.toNat : Nat)) ∧ w.cell? ⟨b, o + j * 4 + 3, none⟩ = some (.slice t.p t.m t.c))
theorem OpsFull.at {w w' : World} {p : Option Addr} {n : Nat} {L : List OpF} (h : OpsFull w p n L) (hB : Below w.heap.size w w') {j : Nat} {t : OpF} (ht : L[j]? = some t) :
    ∃ b o, p = some ⟨b, o, none⟩ ∧ w'.cell? ⟨b, o + j * 4, none⟩ = some (.int .i64 t.kind) ∧ w'.cell? ⟨b, o + j * 4 + 1, none⟩ = some (.int .i64 t.n) ∧ w'.cell? ⟨b, o + j * 4 + 2, none⟩ = some (.int .u8 (t.byte.toNat : Nat)) ∧ w'.cell? ⟨b, o + j * 4 + 3, none⟩ = some (.slice t.p t.m t.c) := by
  obtain ⟨h1, _, h2⟩ := h
  rcases h2 with h0 | ⟨b, o, rfl, h4⟩
  · have := (List.getElem?_eq_some_iff.1 ht).1
    omega
  · obtain ⟨q0, q1, q2, q3⟩ := h4 j t ht
    have hb := World.block_lt_of_cell? w _ q0
    have hc : ∀ i, w'.cell? ⟨b, i, none⟩ = w.cell? ⟨b, i, none⟩ := fun i => hB.cell (p := ⟨b, i, none⟩) hb
    exact ⟨b, o, rfl, (hc _).trans q0, (hc _).trans q1, (hc _).trans q2, (hc _).trans q3⟩
theorem cellsIntSl : Try.prog.cellsOf 28 = 1 := by kernel_rfl
theorem bytesInt : Try.prog.bytesOf 3 = 8 := by kernel_rfl
theorem fields7 : ∃ f0 f1 f2 f3 : Field, Try.prog.underlying 30 = some (.struct #[f0, f1, f2, f3]) ∧ f0.type = 3 ∧ f0.offset = 0 ∧ f1.type = 3 ∧ f1.offset = 1 ∧ f2.type = 5 ∧ f2.offset = 2 ∧ f3.type = 28 ∧ f3.offset = 3 := ⟨_, _, _, _, Try.underlying30, rfl, rfl, rfl, rfl, rfl, rfl, rfl, rfl⟩
set_option maxRecDepth 100000 in
theorem open_opF {H : Type} {enc : TypeId × Value → H} {w : World} (fuel : Nat) (cs : List Value) (x : DataW H × List MemPlace) (h : DataW.trod enc Try.prog w 0 (fun _ => true) true fuel 30 cs = some x)
    (hz : ∀ k ∈ x.1.weights Try.prog 30, k ≤ reachBytes) : ∃ t : OpF, t.ok w ∧ cs = t.cells := by
  obtain ⟨g0, g1, g2, g3, hu, t0, o0, t1, o1, t2, o2, t3, o3⟩ := fields7
  obtain ⟨xs, n, hn, rfl, hl, hlen, hf⟩ := DataW.trod_struct hu h
  rw [cellsOp7] at hl
  have hx4 : xs.length = 4 := hlen
  match xs, hx4 with
  | [x0, x1, x2, x3], _ =>
    have f0 := hf 0 g0 rfl
    have f1 := hf 1 g1 rfl
    have f2 := hf 2 g2 rfl
    have f3 := hf 3 g3 rfl
    rw [t0, o0, cellsInt1] at f0
    rw [t1, o1, cellsInt1] at f1
    rw [t2, o2, cellsU8a] at f2
    rw [t3, o3, cellsIntSl] at f3
    match cs, hl with
    | [y0, y1, y2, y3], _ =>
      simp only [List.take_succ_cons, List.take_zero, List.drop_succ_cons, List.drop_zero, List.getElem?_cons_succ, List.getElem?_cons_zero] at f0 f1 f2 f3
      obtain ⟨k0, e0, _, w0⟩ := DataW.trod_int underInt1 f0
      obtain ⟨k1, e1, _, w1⟩ := DataW.trod_int underInt1 f1
      obtain ⟨k2, e2, _, w2⟩ := DataW.trod_int underU8a f2
      injection e0 with e0 _
      injection e1 with e1 _
      injection e2 with e2 _
      have g2' : 0 ≤ k2 ∧ k2 ≤ 255 := by simpa [Lit.wf, IntKind.min, IntKind.max, IntKind.signed, IntKind.bits] using w2
      have hb : (.int .u8 k2 : Value) = .int .u8 ((UInt8.ofNat k2.toNat).toNat : Nat) := by
        rw [show (UInt8.ofNat k2.toNat).toNat = k2.toNat by rw [UInt8.toNat_ofNat']; omega, Int.toNat_of_nonneg g2'.1]
      have hz3 : ∀ k ∈ x3.1.weights Try.prog 28, k ≤ reachBytes := fun k hk => hz k (by
        show k ∈ DataW.weights Try.prog 30 (.agg [x0.1, x1.1, x2.1, x3.1])
        simp only [DataW.weights, hu, List.map_cons, List.map_nil, t0, t1, t2, t3, DataW.weightsEach, List.append_nil]
        exact List.mem_append_right _ (List.mem_append_right _ (List.mem_append_right _ hk)))
      rcases open_ints underIntSl underInt1 cellsInt1 f3 with ⟨hcs, _⟩ | ⟨a, len, cap, zs, hcs, _, hlc, hm, hz', hx3, hcell, hwf⟩
      · injection hcs with hcs _
        refine ⟨⟨k0, k1, UInt8.ofNat k2.toNat, none, 0, 0, []⟩, ⟨int_i64 w0, int_i64 w1, rfl, Nat.le_refl _, fun x hx => by (cases hx), .inl ⟨rfl, none, 0, rfl⟩, Nat.zero_le _⟩, ?_⟩
        rw [e0, e1, e2, hcs, hb]
        rfl
      · injection hcs with hcs _
        simp only [if_true] at hz'
        have hlen : (zs.take len).length = len := by rw [List.length_take]; omega
        have hsz : zs.length * 8 ≤ reachBytes := by
          have := hz3 (zs.length * 8) (by
            rw [hx3]
            simp only [DataW.weights, underIntSl, bytesInt]
            refine List.mem_cons.2 (.inl ?_)
            unfold lits
            rw [List.length_map, List.length_map, List.length_take, List.length_drop, hz']
            omega)
          exact this
        refine ⟨⟨k0, k1, UInt8.ofNat k2.toNat, some a, len, cap, zs.take len⟩, ⟨int_i64 w0, int_i64 w1, hlen.symm, hlc, fun x hx => int_i64 (hwf x (List.mem_of_mem_take hx)), ?_, ?_⟩, ?_⟩
        · by_cases h0 : len = 0
          · subst h0
            exact .inl ⟨by simp, _, _, rfl⟩
          · obtain ⟨cc, o, rfl⟩ := addr_plain (hcell 0 (by omega))
            refine .inr ⟨cc, o, cap, by rw [hlen], fun i hi => ?_⟩
            dsimp only at hi ⊢
            rw [hlen] at hi
            have h1 := hcell i (by omega)
            rw [Addr.add_mid] at h1
            rw [h1]
            simp [List.getD_eq_getElem?_getD, hi]
        · dsimp only
          unfold reachBytes at hsz
          rw [hlen]
          omega
        · rw [e0, e1, e2, hcs, hb]
          rfl
theorem weights_mem {H : Type} {P : Program} {e : TypeId} : ∀ {l : List (DataW H)} {d : DataW H} {k : Nat}, d ∈ l → k ∈ d.weights P e → k ∈ DataW.weightsAll P e l
  | x :: l, d, k, hd, hk => by
    unfold DataW.weightsAll
    rcases List.mem_cons.1 hd with rfl | hd
    · exact List.mem_append_left _ hk
    · exact List.mem_append_right _ (weights_mem hd hk)
set_option maxRecDepth 100000 in
theorem open_opsF {H : Type} {enc : TypeId × Value → H} {w : World} {b0 : Nat} {r : Reach} {v : Value} {d : DataW H} {p : List MemPlace}
    (hv : Value.okWide Try.prog w r b0 22 v) (h : DataW.Trod enc Try.prog w 0 (fun _ => true) true 22 v d p) (hz : ∀ k ∈ d.weights Try.prog 22, k ≤ reachBytes) :
    ∃ (a : Option Addr) (n c : Nat) (L : List OpF), v = .slice a n c ∧ OpsFull w a n L ∧ n ≤ c ∧ c ≤ 9223372036854775807 := by
  obtain ⟨a0, len, cap, rfl⟩ := okWide_slice underOps7 hv
  obtain ⟨fuel, hf⟩ := h
  rcases DataW.trod_slice underOps7 hf with ⟨hc, _⟩ | ⟨a, len', cap', elems, rest, m, hm, hc, hx, _, hlc, hcm, hel, hall, _, _⟩
  · simp [Value.cells] at hc
    obtain ⟨rfl, rfl, rfl⟩ := hc
    exact ⟨none, 0, 0, [], rfl, ⟨rfl, fun t ht => by (cases ht), .inl rfl⟩, by omega, by omega⟩
  · simp [Value.cells] at hc
    obtain ⟨rfl, rfl, rfl⟩ := hc
    rw [cellsOp7] at hall
    have hd : d = .slice (elems.map (·.1)) (rest.map (·.1)) := congrArg Prod.fst hx
    have key : ∀ j, j < len → ∃ t : OpF, t.ok w ∧ w.cell? ((a.add (j * 4)).add 0) = some (.int .i64 t.kind) ∧ w.cell? ((a.add (j * 4)).add 1) = some (.int .i64 t.n) ∧ w.cell? ((a.add (j * 4)).add 2) = some (.int .u8 (t.byte.toNat : Nat)) ∧ w.cell? ((a.add (j * 4)).add 3) = some (.slice t.p t.m t.c) := fun j hj => by
      have h1 := hall j hj
      rw [List.getElem?_eq_getElem (by omega)] at h1
      obtain ⟨cs2, h2, h3⟩ := Option.bind_eq_some_iff.1 h1
      obtain ⟨t, ht, rfl⟩ := open_opF m cs2 _ h3 (fun k hk => hz k (by
        rw [hd]
        simp only [DataW.weights, underOps7]
        exact List.mem_cons_of_mem _ (List.mem_append_left _ (weights_mem (List.mem_map_of_mem (List.getElem_mem _)) hk))))
      have hq := (World.cells?_some h2).2.2
      exact ⟨t, ht, hq 0 (by omega), hq 1 (by omega), hq 2 (by omega), hq 3 (by omega)⟩
    obtain ⟨L, hL1, hL2⟩ := list_of len key
    refine ⟨some a, len, cap, L, rfl, ⟨hL1.symm, fun t ht => ?_, ?_⟩, hlc, by unfold maxLen at hcm; omega⟩
    · obtain ⟨j, hj⟩ := List.mem_iff_getElem?.1 ht
      exact (hL2 j t hj).1
    by_cases h0 : len = 0
    · exact .inl h0
    · right
      obtain ⟨bk, o, spot⟩ := a
      obtain ⟨t, _, ht, _⟩ := key 0 (by omega)
      have hspot : spot = none := by simpa [Addr.add] using World.cell?_spot ht
      subst hspot
      refine ⟨bk, o, rfl, fun j t hj => ?_⟩
      obtain ⟨_, q0, q1, q2, q3⟩ := hL2 j t hj
      rw [Addr.add_mid, Addr.add_mid] at q0 q1 q2 q3
      exact ⟨q0, q1, q2, q3⟩
end Go.Proofs.Ytonmjkalkkfhhaa
