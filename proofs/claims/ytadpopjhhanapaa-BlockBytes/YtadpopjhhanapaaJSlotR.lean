/-
  What slotOf and each over things make: slots.
-/
import Derived.Test.YtadpopjhhanapaaJRowP
namespace Go.Proofs.Ytadpopjhhanapaa
open Go Go.RowKit

theorem news2 (w : World) (ty : TypeId) (a b : Value) (j : Nat) (u : Value) (h : [a, b][j]? = some u) : (w.alloc (.cells #[a, b] ty)).cell? ((⟨w.heap.size, 0, none⟩ : Addr).add j) = some u := by
  rw [add_plain, Nat.zero_add, World.cell?_alloc_mark]
  simpa using h
theorem LiesB.shape0 {w : World} {r : Row} {a : Option Addr} (h : LiesB w r a) (hp : 0 < r.len) : ∃ b o, a = some ⟨b, o, none⟩ := by
  obtain ⟨bk, o, _, _, h1, _⟩ := h.nth 0 hp
  exact ⟨bk, o, h1⟩
theorem slotof1_any {w : World} {i : Row} {a : Option Addr} {c : Nat} (hl : LiesB w i a) (h2 : i.len = 2) : Calls Try.prog 77 #[.slice a i.len c] w fun e w' => e = .returned (sla (slotR i)) ∧ Below w.heap.size w w' := by
  obtain ⟨b, o, a0, c0, rfl, p0, p1, p2, _⟩ := hl.nth 0 (by omega)
  obtain ⟨b', o', a1, c1, hbo, q0, q1, q2, _⟩ := hl.nth 1 (by omega)
  injection hbo with hbo
  injection hbo with e1 e2
  subst e1 e2
  have HR : Hid (slotR i = ⟨txtAt i 0, txtAt i 1⟩) := by show _ = _; unfold slotR; rw [if_pos h2]
  unfold sla
  rw [HR.out, h2]
  unfold txtAt
  clear hl HR h2
  simp only [Nat.zero_mul, Nat.add_zero, Nat.one_mul] at p0 p1 p2 q0 q1 q2
  generalize (⟨(i.nth 0).2.1.toArray⟩ : ByteArray) = x0 at *
  generalize (⟨(i.nth 1).2.1.toArray⟩ : ByteArray) = x1 at *
  generalize (i.nth 0).2.2.len = n0 at *
  generalize (i.nth 1).2.2.len = n1 at *
  obtain ⟨W0, hW0⟩ : ∃ W0, World.alloc w (.cells #[.string ⟨#[]⟩, .string ⟨#[]⟩] 50) = W0 := ⟨_, rfl⟩
  obtain ⟨g, hg⟩ : ∃ g, w.heap.size = g := ⟨_, rfl⟩
  have hB : Below w.heap.size w W0 := by rw [← hW0]; exact below_new1 _ _
  have hh : Holds W0 g 50 #[.string ⟨#[]⟩, .string ⟨#[]⟩] := by rw [← hW0, ← hg]; exact Holds.new _ _ _
  have r1 := keep_cell hB p1
  have s1 := keep_cell hB q1
  have HB : Hid (Below w.heap.size w W0) := hB
  have HG : Hid (w.heap.size = g) := hg
  clear hB p0 p1 p2 q0 q1 q2
  go_enter Try.func77, Try.ntmps77
  go_wp2_with fail
  refine wp_region_ctail (fun W => Below W0.heap.size W0 W) 8 mixedP (by kernel_rfl) (Below.refl _ _).drew ?_
  simp only [List.take_succ_cons, List.take_zero, List.drop_succ_cons, List.drop_zero]
  go_big_quiet_step (exact fun _ => rfl)
  go_big_quiet_step (exact fun _ => rfl)
  go_big_quiet_step (exact fun _ => rfl)
  refine wpQ_ld rfl _ _ rfl rfl (fun W hW => ldTxt (keep_cell hW r1)) ?_
  go_frame
  go_big_quiet_step (exact fun _ => rfl)
  go_big_quiet_step (exact fun _ => rfl)
  go_big_quiet_step (exact fun _ => rfl)
  refine wpQ_ld rfl _ _ rfl rfl (fun W hW => ldTxt (keep_cell hW s1)) ?_
  go_frame
  refine wpQuiet_nil ?_
  intro w2 hB2
  have hh2 := below_holds hB2 hh
  go_wp2_with (refine wpList_storeH rfl 50 _ _ rfl g #[.string x0, .string x1] rfl rfl 50 _ hh2 infoSlot2 rfl (by simp [Value.oneCell']) ?_; intro w3 h3 o3 z3)
  refine bodyPost_ret (results_cellH (p := 2) rfl _ w3 g 50 _ _ rfl h3 Try.underlying50 rfl infoSlot2) rfl ⟨rfl, Only.fresh (below_new HB.out hB2) o3 (by have := HG.out; omega)⟩
theorem box_item (w : World) (b : Bool) (s : ByteArray) (v : Value) : ∃ W0 g, w.alloc (.cells #[.bool b, .string s, v] 54) = W0 ∧ w.heap.size = g ∧ Below w.heap.size w W0 ∧ W0.cell? ⟨g, 0, none⟩ = some (.bool b) ∧ W0.cell? ⟨g, 1, none⟩ = some (.string s) ∧ W0.cell? ⟨g, 2, none⟩ = some v := by
  have h := Holds.new w 54 #[.bool b, .string s, v]
  exact ⟨_, _, rfl, rfl, below_new1 _ _, h.cell 0, h.cell 1, h.cell 2⟩
theorem box_z (w : World) (ty : TypeId) (cs : Array Value) : ∃ W0 g, w.alloc (.cells cs ty) = W0 ∧ w.heap.size = g ∧ Below w.heap.size w W0 ∧ Holds W0 g ty cs := ⟨_, _, rfl, rfl, below_new1 _ _, Holds.new _ _ _⟩
set_option maxRecDepth 8000 in
theorem mades_any {w : World} {i : Row} {a : Option Addr} {c : Nat} (b : Bool) (s : ByteArray) (hl : LiesB w i a) : Calls Try.prog 76 #[.agg #[.bool b, .string s, .slice a i.len c], .int .i64 2, .func (.func 77) #[] #[]] w fun e w' => e = .returned (sla (slotR i)) ∧ Below w.heap.size w w' := by
  obtain ⟨W0, g, hW0, hg, hB0, c0, c1, c2⟩ := box_item w b s (.slice a i.len c)
  obtain ⟨W1, g1, hW1, hg1, hB1, hz⟩ := box_z W0 50 #[.string ⟨#[]⟩, .string ⟨#[]⟩]
  have d2 := keep_cell hB1 c2
  have HB : Hid (Below w.heap.size w W1) := below_new hB0 hB1
  have HG : Hid (w.heap.size ≤ g1) := by show _ ≤ _; rw [← hg1]; exact hB0.size
  have HS : Hid (i.len = 2 → Calls Try.prog 77 #[.slice a i.len c] W1 fun e w' => e = .returned (sla (slotR i)) ∧ Below W1.heap.size W1 w') := fun h => slotof1_any ((hl.below hB0).below hB1) h
  have HZ : Hid (i.len ≠ 2 → slotR i = ⟨⟨#[]⟩, ⟨#[]⟩⟩) := fun h => by unfold slotR; rw [if_neg h]
  have HH : Hid (Holds W1 g1 50 #[.string ⟨#[]⟩, .string ⟨#[]⟩]) := hz
  clear hB0 hB1 c0 c1 c2 hz hl
  by_cases h2 : i.len = 2
  · have HS2 : Hid (Calls Try.prog 77 #[.slice a 2 c] W1 fun e w' => e = .returned (sla (slotR i)) ∧ Below W1.heap.size W1 w') := by have := HS.out h2; rw [h2] at this; exact this
    rw [h2] at d2 hW0 ⊢
    clear HS HZ h2
    generalize slotR i = x at *
    obtain ⟨xk, xv⟩ := x
    unfold sla at *
    dsimp only at *
    go_enter Try.func76, Try.ntmps76
    go_wp2_with (first
      | (go_at_call 77; refine HS2.out.mono ?_; rintro e w2 ⟨rfl, hB2⟩)
      | (refine wpList_storeH rfl 50 _ _ rfl g1 #[.string xk, .string xv] rfl rfl 50 _ (below_holds hB2 HH.out) infoSlot2 rfl (by simp [Value.oneCell']) ?_; intro w3 h3 o3 z3)
      | fail)
    exact bodyPost_ret (results_cellH (p := 6) rfl _ w3 g1 50 _ _ rfl h3 Try.underlying50 rfl infoSlot2) rfl ⟨rfl, Only.fresh (below_new HB.out hB2) o3 HG.out⟩
  · have hni : ¬ (i.len : Int) = 2 := by omega
    have hx := HZ.out h2
    rw [hx]
    unfold sla
    clear HS HZ h2 hx
    generalize i.len = n at *
    obtain ⟨W2, g2, hW2, hg2, hB2, hz2⟩ := box_z W1 50 #[.string ⟨#[]⟩, .string ⟨#[]⟩]
    have H2 : Hid (Below W1.heap.size W1 W2) := hB2
    have e0 := hz2.cell 0
    have e1 := hz2.cell 1
    simp at e0 e1
    clear hB2 hz2
    go_enter Try.func76, Try.ntmps76
    go_wp2_with (first
      | (refine wpList_storeH rfl 50 _ _ rfl g1 #[.string ⟨#[]⟩, .string ⟨#[]⟩] rfl rfl 50 _ (below_holds H2.out HH.out) infoSlot2 rfl (by simp [Value.oneCell']) ?_; intro w3 h3 o3 z3)
      | fail)
    exact bodyPost_ret (results_cellH (p := 6) rfl _ w3 g1 50 _ _ rfl h3 Try.underlying50 rfl infoSlot2) rfl ⟨rfl, Only.fresh (below_new HB.out H2.out) o3 HG.out⟩
set_option maxRecDepth 8000 in
theorem slotof_any {w : World} {i : Row} {a : Option Addr} {c : Nat} (b : Bool) (s : ByteArray) (hl : LiesB w i a) : Calls Try.prog 70 #[.agg #[.bool b, .string s, .slice a i.len c]] w fun e w' => e = .returned (sla (slotR i)) ∧ Below w.heap.size w w' := by
  obtain ⟨W0, g, hW0, hg, hB0, c0, c1, c2⟩ := box_item w b s (.slice a i.len c)
  obtain ⟨W1, g1, hW1, hg1, hB1, hz⟩ := box_z W0 50 #[.string ⟨#[]⟩, .string ⟨#[]⟩]
  have d0 := keep_cell hB1 c0
  have d1 := keep_cell hB1 c1
  have d2 := keep_cell hB1 c2
  have HB : Hid (Below w.heap.size w W1) := below_new hB0 hB1
  have HG : Hid (w.heap.size ≤ g1) := by show _ ≤ _; rw [← hg1]; exact hB0.size
  have HS : Hid (Calls Try.prog 76 #[.agg #[.bool b, .string s, .slice a i.len c], .int .i64 2, .func (.func 77) #[] #[]] W1 fun e w' => e = .returned (sla (slotR i)) ∧ Below W1.heap.size W1 w') := mades_any b s ((hl.below hB0).below hB1)
  have HH : Hid (Holds W1 g1 50 #[.string ⟨#[]⟩, .string ⟨#[]⟩]) := hz
  clear hB0 hB1 c0 c1 c2 hz hl
  generalize i.len = n at *
  generalize slotR i = x at *
  obtain ⟨xk, xv⟩ := x
  unfold sla at *
  dsimp only at *
  go_enter Try.func70, Try.ntmps70
  go_wp2_with (first
    | (go_at_call 76; refine HS.out.mono ?_; rintro e w2 ⟨rfl, hB2⟩)
    | (refine wpList_storeH rfl 50 _ _ rfl g1 #[.string xk, .string xv] rfl rfl 50 _ (below_holds hB2 HH.out) infoSlot2 rfl (by simp [Value.oneCell']) ?_; intro w3 h3 o3 z3)
    | fail)
  exact bodyPost_ret (results_cellH (p := 2) rfl _ w3 g1 50 _ _ rfl h3 Try.underlying50 rfl infoSlot2) rfl ⟨rfl, Only.fresh (below_new HB.out hB2) o3 HG.out⟩
set_option maxRecDepth 8000 in
set_option maxHeartbeats 2000000 in
theorem eachsl_any {w : World} {r : Row} {a : Option Addr} {c : Nat} (hr : LiesB w r a) (hl : r.len ≤ 1000000) :
    Calls Try.prog 69 #[.slice a r.len c, .func (.func 70) #[] #[]] w fun e w' => ∃ v', e = .returned v' ∧ OwnSl w' w.heap.size v' (slotsR r) ∧ Below w.heap.size w w' := by
  obtain ⟨n, hn⟩ : ∃ n, r.len = n := ⟨_, rfl⟩
  have HN : Hid (r.len = n) := hn
  rw [hn] at hl ⊢
  clear hn
  have hni : (n : Int) ≤ 1000000 := by omega
  go_enter Try.func69, Try.ntmps69
  go_wp2_with fail
  go_loopw [5, 10] (fun x y wr => ∃ k : Nat, y = .int .i64 (k : Nat) ∧ k ≤ n ∧ OwnSl wr w.heap.size x ((slotsR r).take k) ∧ Below w.heap.size w wr) (fun _ y _ => n - (intOf y).toNat)
  case atStart => exact ⟨0, rfl, Nat.zero_le _, OwnSl.nil _ _, Below.refl _ _⟩
  case round =>
    obtain ⟨k, rfl, hk, hx, hB⟩ := hrel
    have HX : Hid (OwnSl wr w.heap.size _ ((slotsR r).take k)) := hx
    clear hx
    by_cases hkn : k < n
    · have hki : (k : Int) < n := by omega
      have HY : Hid ((slotsR r).take (k + 1) = (slotsR r).take k ++ [slotR (rowAt r k)]) := slotsR_take r k (by rw [HN.out]; exact hkn)
      obtain ⟨b, o, a1, c1, rfl, d0, d1, d2, hil, hli⟩ := (hr.below hB).nth k (by rw [HN.out]; exact hkn)
      have hm := fun W (hW : Below wr.heap.size wr W) => slotof_any (c := c1) (r.nth k).1 ⟨(r.nth k).2.1.toArray⟩ (hli.below hW)
      have HM : Hid (((slotsR r).take k).length ≤ 1000000) := by show _ ≤ _; rw [List.length_take, slotsR_len, HN.out]; omega
      clear hr hli
      unfold rowAt at HY
      generalize slotR (r.nth k).2.2 = q at hm HY
      generalize (r.nth k).2.2.len = m at *
      generalize (r.nth k).1 = b0 at *
      generalize (⟨(r.nth k).2.1.toArray⟩ : ByteArray) = s0 at *
      obtain ⟨xk, xv⟩ := q
      unfold sla at hm
      dsimp only at *
      obtain ⟨i0, hi, hz0, hz1, hz2⟩ := infoSlotJ
      go_wp2_with (first
        | (go_at_call 70; refine (hm _ (below_new1 _ _)).mono ?_; rintro e w1 ⟨rfl, hB1⟩)
        | (have hB2 : Below wr.heap.size wr (World.alloc w1 (.cells #[.string xk, .string xv] 50)) := below_new (one_alloc hB1) (below_new1 _ _)
           refine wpList_append_own2 _ rfl _ _ 36 rfl w.heap.size 50 i0 (.agg #[.string ⟨#[]⟩, .string ⟨#[]⟩]) 2 32 underSlots hi hz0 hz1 hz2 rfl (by omega) _ ((slotsR r).take k).length (scells ((slotsR r).take k)) rfl (HX.out.below0 hB2) ⟨w1.heap.size, 0, none⟩ 1 1 [.string xk, .string xv] rfl rfl (news2 w1 _ _ _) (by intro u hu; simp at hu; rcases hu with rfl | rfl <;> rfl) (by omega) (by have := HM.out; unfold maxLen; omega) (by have := HM.out; omega) (Nat.le_trans hB.size hB2.size) ?_
           intro v' w2 hv2 hg2 hw2)
        | fail)
      have hB3 : Below w.heap.size w w2 := (below_new hB hB2).grown hg2 (Nat.le_trans hB.size hB2.size) (fun k hk => (HX.out.lt k hk).1)
      refine ⟨⟨k + 1, by go_num, by omega, ?_, hB3⟩, by simp [intOf]; omega⟩
      rw [HY.out]
      unfold OwnSl
      rw [List.length_append, scells_app]
      exact hv2
    · have hki : ¬ (k : Int) < n := by omega
      obtain rfl : k = n := by omega
      have HE : Hid ((slotsR r).take k = slotsR r) := List.take_of_length_le (by rw [slotsR_len]; have := HN.out; omega)
      go_wp2_with fail
      go_ret
      have := HX.out
      rw [HE.out] at this
      exact ⟨_, rfl, this, hB⟩
end Go.Proofs.Ytadpopjhhanapaa
