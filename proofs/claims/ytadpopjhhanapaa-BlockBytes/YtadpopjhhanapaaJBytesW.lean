/-
  written, Bytes and Check.
-/
import Derived.Test.YtadpopjhhanapaaJWritW
import Derived.Test.YtadpopjhhanapaaJRiseW
namespace Go.Proofs.Ytadpopjhhanapaa
open Go Go.RowKit

theorem ldI64 {w : World} {ad : Addr} {x : Int} (h : w.cell? ad = some (.int .i64 x)) : (loadVar 3 ad).run Try.prog w = .ok (.int .i64 x) w := by simp [go_sem, h]
theorem ldWs {w : World} {ad : Addr} {p : Option Addr} {n c : Nat} (h : w.cell? ad = some (.slice p n c)) : (loadVar 22 ad).run Try.prog w = .ok (.slice p n c) w := by simp [go_sem, h]
theorem wrap_u64_nat (n : Nat) (h : n ≤ 2147483647) : IntKind.u64.wrap (n : Int) = (n : Int) := by rw [IntKind.wrap_u64]; omega
theorem riseL_all {α : Type} {key : α → ByteArray} {ok : α → Bool} {z : Nat} : ∀ {L : List α} {last : ByteArray}, riseL key ok z last L = true → ∀ x ∈ L, ok x = true ∧ (key x).size = z
  | y :: l, last, h, x, hx => by
    unfold riseL at h
    simp only [Bool.and_eq_true, decide_eq_true_eq] at h
    rcases List.mem_cons.1 hx with rfl | hx
    · exact ⟨h.1.1, h.1.2.1⟩
    · exact riseL_all h.2 x hx
theorem okA_len {b c : List UInt8} {z : Int} (h : okA b c z = true) : b.length ≤ 32 ∧ c.length ≤ 32 := by
  unfold okA at h
  simp only [Bool.and_eq_true, Bool.or_eq_true, decide_eq_true_eq] at h
  exact ⟨((rightN_iff _).1 h.1.1).1, by omega⟩
theorem okW_small {x : Wr} (h : okW x = true) (ha : x.a.size ≤ 100) : SmallW x := by
  unfold okW at h
  simp only [Bool.and_eq_true, decide_eq_true_eq] at h
  obtain ⟨⟨⟨_, hl⟩, hA⟩, hr⟩ := h
  have h1 := okA_len hA
  rw [sizeB, sizeB] at h1
  refine ⟨ha, by omega, by omega, hl, fun y hy => ?_⟩
  obtain ⟨h2, h3⟩ := riseL_all hr y hy
  have h4 := ((rightN_iff _).1 h2).1
  rw [sizeB] at h4
  exact ⟨by omega, by omega⟩
theorem okB_all {n : Int} {L : List Wr} (h : okB n L = true) : 1 ≤ n ∧ n ≤ 2147483647 ∧ L.length ≤ 64 ∧ ∀ x ∈ L, SmallW x := by
  unfold okB at h
  simp only [Bool.and_eq_true, decide_eq_true_eq] at h
  exact ⟨h.1.1.1, h.1.1.2, h.1.2, fun x hx => okW_small (riseL_all h.2 x hx).1 (by rw [(riseL_all h.2 x hx).2]; decide)⟩
def blkV (n : Int) (v : Value) : Value := .agg #[.int .i64 n, v]
/-- A block's bytes, if it may be. -/
def bytesOf (n : Int) (L : List Wr) : Option (List UInt8) := if okB n L = true then (if (encBk n.toNat L).length ≤ 60000 then some (encBk n.toNat L) else none) else none
def bytV (o : Option (List UInt8)) : Value := match o with
  | some s => .tuple #[.string ⟨s.toArray⟩, .int .i64 0]
  | none => .tuple #[.string ⟨#[]⟩, .int .i64 19]
def errV (o : Option (List UInt8)) : Int := match o with
  | some _ => 0
  | none => 19
theorem writes_len {L : List Wr} (hl : L.length ≤ 64) (h : ∀ x ∈ L, SmallW x) : (cat (L.map encWB)).length ≤ 966400 := by
  have h1 := cat_len (m := 15100) (L := L.map encWB) (by
    intro y hy
    obtain ⟨s, hs, rfl⟩ := List.mem_map.1 hy
    exact encW_len (h s hs))
  rw [List.length_map] at h1
  omega
set_option maxRecDepth 8000 in
set_option maxHeartbeats 2000000 in
theorem maybe_any {w : World} {n : Int} {v : Value} {L : List Wr} (hv : WritesAt w v L) (hl : L.length ≤ 4000000000000) : Calls Try.prog 21 #[blkV n v] w fun e w' => e = .returned (.bool (okB n L)) ∧ Below w.heap.size w w' := by
  obtain ⟨p, c, rfl⟩ := hv.shape
  obtain ⟨W0, g, hW0, hg, hB0, hb0, h0, h1⟩ := box_block w n (.slice p L.length c)
  have HB : Hid (Below w.heap.size w W0) := hB0
  have HG : Hid (w.heap.size = g) := hg
  have hr := riseW_any (hv.below hB0) hl
  unfold okB blkV
  obtain ⟨r, hrr⟩ : ∃ r, riseL Wr.a okW 20 ⟨#[]⟩ L = r := ⟨_, rfl⟩
  rw [hrr] at hr ⊢
  generalize L.length = m at *
  have HR : Hid (Calls Try.prog 32 #[.slice p m c, .int .i64 20, .func (.func 33) #[] #[]] W0 fun e w' => e = .returned (.bool r) ∧ Below W0.heap.size W0 w') := hr
  clear hB0 hb0 hrr hv hr
  by_cases h1n : 1 ≤ n
  · have h1i : ¬ n < 1 := by omega
    by_cases h2n : n ≤ 2147483647
    · have h2i : ¬ (2147483647 < n) := by omega
      by_cases hm : m ≤ 64
      · have hmi : ¬ (64 : Int) < m := by omega
        rw [decide_eq_true h1n, decide_eq_true h2n, decide_eq_true hm]
        go_enter Try.func21, Try.ntmps21
        go_wp2_with (go_at_call 32; refine HR.out.mono ?_; rintro e w1 ⟨rfl, hB1⟩)
        go_ret
        exact ⟨rfl, below_new (by first | exact HB.out | (rw [← HG.out]; exact HB.out)) hB1⟩
      · have hmi : (64 : Int) < m := by omega
        rw [decide_eq_true h1n, decide_eq_true h2n, decide_eq_false hm]
        go_enter Try.func21, Try.ntmps21
        go_wp2_with fail
        go_ret
        exact ⟨rfl, by first | exact HB.out | (rw [← HG.out]; exact HB.out)⟩
    · have h2i : 2147483647 < n := by omega
      rw [decide_eq_true h1n, decide_eq_false h2n]
      go_enter Try.func21, Try.ntmps21
      go_wp2_with fail
      go_ret
      exact ⟨rfl, by first | exact HB.out | (rw [← HG.out]; exact HB.out)⟩
  · have h1i : n < 1 := by omega
    rw [decide_eq_false h1n]
    go_enter Try.func21, Try.ntmps21
    go_wp2_with fail
    go_ret
    exact ⟨rfl, by first | exact HB.out | (rw [← HG.out]; exact HB.out)⟩
set_option maxRecDepth 8000 in
set_option maxHeartbeats 4000000 in
theorem benc_any {w : World} {n : Nat} {v : Value} {L : List Wr} (hv : WritesAt w v L) (hn : n ≤ 2147483647) (hl : L.length ≤ 64) (hs : ∀ x ∈ L, SmallW x) : Calls Try.prog 22 #[blkV (n : Int) v] w fun e w' => e = .returned (.string ⟨(encBk n L).toArray⟩) ∧ Below w.heap.size w w' := by
  obtain ⟨p, c, rfl⟩ := hv.shape
  obtain ⟨W0, g, hW0, hg, hB0, hb0, h0, h1⟩ := box_block w n (.slice p L.length c)
  have HB : Hid (Below w.heap.size w W0) := hB0
  have HG : Hid (w.heap.size = g) := hg
  have heach := fun W (hW : Below w.heap.size w W) => eachWW_any (hv.below hW) (by omega) encWB (fun y hy W' hW' => wenc_any (((hv.1 y hy).below hW).below hW') (hs y hy))
  have hnum := fun W => number_any n W (by omega)
  have hnl : (numB n).size ≤ 8 := num_len n
  have htx := fun W => texts_any (strs_new W 9 [numB n] 1 (Nat.le_refl _)) (by simp) (fun y hy => by rw [List.mem_singleton.1 hy]; omega)
  have hwl := writes_len hl hs
  have hsl : (L.map encWB).length ≤ 100000 ∧ (cat (L.map encWB)).length ≤ 100000000 := ⟨by rw [List.length_map]; omega, by omega⟩
  have htl : (txtL [numB n]).length ≤ 17 := by
    have := txtL_len (m := 8) (L := [numB n]) (fun y hy => by rw [List.mem_singleton.1 hy]; exact hnl)
    simpa using this
  have hfin := fun W => list_s (strs_new W 9 [⟨(txtL [numB n]).toArray⟩, ⟨(listL (cat (L.map encWB))).toArray⟩] 2 (Nat.le_refl _)) (by simp) (by
    have := listL_len (cat (L.map encWB))
    simp [cat] at this ⊢
    simp [cat] at hwl
    omega)
  have hout : encBk n L = listL (cat [⟨(txtL [numB n]).toArray⟩, ⟨(listL (cat (L.map encWB))).toArray⟩]) := by
    unfold encBk
    simp [cat]
  rw [hout]
  clear hout hB0
  generalize listL (cat [⟨(txtL [numB n]).toArray⟩, ⟨(listL (cat (L.map encWB))).toArray⟩]) = R at hfin ⊢
  generalize txtL [numB n] = T at htx hfin
  have hlist := fun W v (hv : StrsAt W v (L.map encWB)) => list_s hv hsl.1 hsl.2
  generalize listL (cat (L.map encWB)) = S at hlist hfin
  generalize L.map encWB = K at *
  unfold numB at htx
  generalize num n = nx at *
  generalize L.length = m at *
  unfold blkV
  have HEACH : Hid (∀ W, Below w.heap.size w W → Calls Try.prog 30 #[.slice p m c, .func (.func 38) #[] #[]] W fun e w' => ∃ v', e = .returned v' ∧ OwnS w' W.heap.size v' K ∧ Below W.heap.size W w') := heach
  have HNUM : Hid (∀ W, Calls Try.prog 37 #[.int .u64 (n : Nat)] W fun e w' => e = .returned (.string ⟨nx.toArray⟩) ∧ Below W.heap.size W w') := hnum
  have HTX : Hid (∀ W : World, Calls Try.prog 36 #[.slice (some ⟨W.heap.size, 0, none⟩) 1 1] (W.alloc (.cells #[.string ⟨nx.toArray⟩] 9)) fun e w' => e = .returned (.string ⟨T.toArray⟩) ∧ Below (W.alloc (.cells #[.string ⟨nx.toArray⟩] 9)).heap.size (W.alloc (.cells #[.string ⟨nx.toArray⟩] 9)) w') := htx
  have HFIN : Hid (∀ W : World, Calls Try.prog 35 #[.slice (some ⟨W.heap.size, 0, none⟩) 2 2] (W.alloc (.cells #[.string ⟨T.toArray⟩, .string ⟨S.toArray⟩] 9)) fun e w' => e = .returned (.string ⟨R.toArray⟩) ∧ Below (W.alloc (.cells #[.string ⟨T.toArray⟩, .string ⟨S.toArray⟩] 9)).heap.size (W.alloc (.cells #[.string ⟨T.toArray⟩, .string ⟨S.toArray⟩] 9)) w') := hfin
  have HLIST : Hid (∀ W v, StrsAt W v K → Calls Try.prog 35 #[v] W fun e w' => e = .returned (.string ⟨S.toArray⟩) ∧ Below W.heap.size W w') := hlist
  clear heach hnum htx hfin hlist hs hsl hwl htl hnl hb0 hv hl
  have hni : (n : Int) ≤ 2147483647 := by omega
  go_enter Try.func22, Try.ntmps22
  go_wp2_with fail
  refine Dt.wp_region_tree (fun W => Below W0.heap.size W0 W) [0, 1, 2, 6, 7] (.one 3 (.one 4 (.one 5 (.one 8 (.one 9 (.one 10 (.one 11 (.one 12 .nil)))))))) mixedP (by kernel_rfl) rfl (by kernel_rfl) (fun _ _ _ d _ h => by cases d <;> exact h) (Below.refl _ _).drew ?_
  refine Dt.tk_val (some 3) rfl rfl rfl (.pointer (some ⟨g, 0, none⟩)) (fun _ => by go_simp) ?_
  go_frame
  refine Dt.tk_ld (some 4) rfl rfl rfl _ _ rfl rfl (fun W hW => ldI64 (keep_cell hW h0)) ?_
  go_frame
  refine Dt.tk_val (some 5) rfl rfl rfl (.int .u64 (n : Nat)) (fun _ => by go_simp; exact wrap_u64_nat n (by omega)) ?_
  go_frame
  refine Dt.tk_val (some 9) rfl rfl rfl (.pointer (some ⟨g, 1, none⟩)) (fun _ => by go_simp) ?_
  go_frame
  refine Dt.tk_ld (some 10) rfl rfl rfl _ _ rfl rfl (fun W hW => ldWs (keep_cell hW h1)) ?_
  go_frame
  refine Dt.tk_nil ?_
  have hC0 : Below W0.heap.size W0 W0.drew := (Below.refl _ _).drew
  refine Dt.op_call (some 6) rfl rfl rfl (f := 37) (vs := #[.int .u64 (n : Nat)]) (by go_simp) ((HNUM.out _).mono ?_)
  rintro e w3 ⟨rfl, hB3⟩
  have hC3 := below_new hC0 hB3
  refine ⟨_, rfl, hC3, ?_⟩
  go_frame
  refine Dt.op_val (some 7) rfl rfl rfl (v := .slice (some ⟨w3.heap.size, 0, none⟩) 1 1) (w' := w3.alloc (.cells #[.string ⟨nx.toArray⟩] 9)) (by go_simp) ?_
  have hC4 : Below W0.heap.size W0 (w3.alloc (.cells #[.string ⟨nx.toArray⟩] 9)) := below_new hC3 (below_new1 _ _)
  refine ⟨hC4, ?_⟩
  go_frame
  refine Dt.op_call (some 8) rfl rfl rfl (f := 36) (vs := #[.slice (some ⟨w3.heap.size, 0, none⟩) 1 1]) (by go_simp) ((HTX.out _).mono ?_)
  rintro e w5 ⟨rfl, hB5⟩
  have hC5 := below_new hC4 hB5
  refine ⟨_, rfl, hC5, ?_⟩
  go_frame
  refine Dt.op_call (some 11) rfl rfl rfl (f := 30) (vs := #[.slice p m c, .func (.func 38) #[] #[]]) (by go_simp) ((HEACH.out _ (below_new HB.out hC5)).mono ?_)
  rintro e w6 ⟨v6, rfl, hv6, hB6⟩
  have hC6 := below_new hC5 hB6
  refine ⟨_, rfl, hC6, ?_⟩
  have hv6 := hv6.at
  obtain ⟨p6, c6, rfl⟩ := hv6.shape
  go_frame
  refine Dt.op_call (some 12) rfl rfl rfl (f := 35) (vs := #[.slice p6 K.length c6]) (by go_simp) ((HLIST.out _ _ hv6).mono ?_)
  rintro e w7 ⟨rfl, hB7⟩
  have hC7 := below_new hC6 hB7
  refine ⟨_, rfl, hC7, ?_⟩
  go_frame
  refine Dt.op_val (some 13) rfl rfl rfl (v := .slice (some ⟨w7.heap.size, 0, none⟩) 2 2) (w' := w7.alloc (.cells #[.string ⟨T.toArray⟩, .string ⟨S.toArray⟩] 9)) (by go_simp) ?_
  have hC8 : Below W0.heap.size W0 (w7.alloc (.cells #[.string ⟨T.toArray⟩, .string ⟨S.toArray⟩] 9)) := below_new hC7 (below_new1 _ _)
  refine ⟨hC8, ?_⟩
  go_frame
  refine Dt.op_call (some 14) rfl rfl rfl (f := 35) (vs := #[.slice (some ⟨w7.heap.size, 0, none⟩) 2 2]) (by go_simp) ((HFIN.out _).mono ?_)
  rintro e w8 ⟨rfl, hB8⟩
  have hC9 := below_new hC8 hB8
  refine ⟨_, rfl, hC9, ?_⟩
  go_frame
  refine Dt.op_val (some 2) rfl rfl rfl (v := .string ⟨R.toArray⟩) (w' := w8) (by go_simp) ?_
  refine ⟨hC9, ?_⟩
  go_frame
  refine then_normalJ ?_
  go_wp2_with fail
  go_ret
  exact ⟨rfl, below_new HB.out hC9⟩
end Go.Proofs.Ytadpopjhhanapaa
