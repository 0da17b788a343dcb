/-
  What the document's call of Open does.
-/
import Derived.Test.YtjbenoaefjlbaaaDoorPQSealW
import Derived.Test.YtjbenoaefjlbaaaDoorPTake
import Derived.Handy
namespace Go.Proofs.YtjbenoaefjlbaaaDoor
open Go Go.RowKit

theorem size_mul (p : ByteArray) (h : p.size = 1024) : wrap64 (wrap64 (wrap64 ((p[1]'(by omega)).toNat : Nat) * 256) + wrap64 ((p[2]'(by omega)).toNat : Nat)) = ((szP p : Nat) : Int) := by
  have h1 := (p[1]'(by omega)).toNat_lt
  have h2 := (p[2]'(by omega)).toNat_lt
  unfold szP
  rw [← getD_get p 1 (by omega), ← getD_get p 2 (by omega)]
  unfold wrap64
  omega
set_option maxRecDepth 4000 in
set_option maxHeartbeats 1000000 in
theorem qopen_any (p : ByteArray) (w : World) (hp : p.size ≤ 9223372036854775807) :
    Calls Tryd.prog 12 #[.string p] w fun e w' => e = .returned (.tuple #[openK p, openB p, openE p]) ∧ Below w.heap.size w w' := by
  by_cases h : p.size = 1024
  · have h1 : (p.size : Int) = 1024 := by omega
    go_enter Tryd.func12, Tryd.ntmps12
    go_wp2_with fail
    go_quiet (fail)
    refine then_normal ?_
    go_at_K
    rw [size_mul p h]
    obtain ⟨z, hz⟩ : ∃ z, z = szP p := ⟨_, rfl⟩
    rw [← hz]
    have HZ : Hid (z = szP p) := hz
    clear hz
    by_cases hl : z ≤ 1013
    · have hli : ¬ (1013 : Int) < z := by omega
      go_wp2_with fail
      have hxs : (p.extract 11 (11 + z)).size ≤ 1013 := by rw [ByteArray.size_extract]; omega
      refine wp_region_plan (fun W => Below w.heap.size w W) [.take 0, .take 1, .take 2, .take 3, .take 4, .take 5, .one 6, .take 7, .take 8, .take 9, .one 10, .one 11] mixedP (by kernel_rfl) rfl (by kernel_rfl) (fun _ _ _ d _ h => by cases d <;> exact h) ((below_drewn w.heap.size w _).drew) ?_
      refine plan_val (some 22) rfl rfl rfl (.string p) (fun _ => by go_simp) ?_
      go_frame
      refine plan_val (some 23) rfl rfl rfl (.int .u8 ((p[0]'(by omega)).toNat : Nat)) (fun _ => by go_simp) ?_
      go_frame
      refine plan_val (some 24) rfl rfl rfl (.string p) (fun _ => by go_simp) ?_
      go_frame
      refine plan_val (some 25) rfl rfl rfl (.int .i64 (z : Nat)) (fun _ => by go_simp) ?_
      go_frame
      obtain ⟨y, hy⟩ : ∃ y, y = 11 + z := ⟨_, rfl⟩
      have hy1 : IntKind.i64.wrap (11 + (z : Int)) = (y : Int) := by rw [IntKind.wrap_i64]; omega
      have hy2 : (11 : Int) ≤ (y : Int) := by omega
      have hy3 : (y : Int) ≤ 1024 := by omega
      have hy0 : (0 : Int) ≤ (y : Int) := by omega
      have HY : Hid (y = 11 + z) := hy
      clear hy
      refine plan_val (some 26) rfl rfl rfl (.int .i64 (y : Nat)) (fun _ => by go_simp) ?_
      go_frame
      refine plan_val (some 27) rfl rfl rfl (.string (p.extract 11 y)) (fun _ => by go_simp) ?_
      go_frame
      refine plan_call (some 28) rfl rfl rfl (f := 10) (vs := #[.int .u8 ((p[0]'(by omega)).toNat : Nat), .string (p.extract 11 y)]) (by go_simp) ?_
      rw [HY.out]
      refine (qseal_any (p[0]'(by omega)) _ _ hxs).mono ?_
      rintro e w2 ⟨rfl, hB2⟩
      have hB : Below w.heap.size w w2 := ((below_drewn w.heap.size w _).drew).trans hB2
      refine ⟨_, rfl, hB, ?_⟩
      go_frame
      obtain ⟨S, hS⟩ : ∃ S, S = sealS (p[0]'(by omega)) (p.extract 11 (11 + z)) := ⟨_, rfl⟩
      rw [← hS]
      have hk : p[0]'(by omega) = p.data.toList.getD 0 0 := getD_get p 0 (by omega)
      have HS : Hid (S = sealS (p.data.toList.getD 0 0) (p.extract 11 (11 + szP p))) := by unfold Hid; rw [hS, hk, HZ.out]
      clear hS hB2 hy1 hy2 hy3 hy0
      refine plan_val (some 21) rfl rfl rfl (.tuple #[.string S, .int .i64 0]) (fun _ => by go_simp) ?_
      go_frame
      refine plan_val (some 29) rfl rfl rfl (.string S) (fun _ => by go_simp) ?_
      go_frame
      refine plan_val (some 30) rfl rfl rfl (.int .i64 0) (fun _ => by go_simp) ?_
      go_frame
      refine plan_one (some 6) rfl rfl rfl (v := .string S) (by go_simp) hB ?_
      go_frame
      refine plan_one (some 7) rfl rfl rfl (v := .int .i64 0) (by go_simp) hB ?_
      go_frame
      refine then_normal ?_
      go_at_K
      by_cases hq : S = p
      · subst hq
        have ho : openS S = some (S.data.toList.getD 0 0, S.extract 11 (11 + szP S)) := by
          have := HS.out
          unfold openS
          rw [if_pos ⟨h, by rw [← HZ.out]; exact hl, this.symm⟩]
        obtain ⟨e1, e2, e3⟩ := open_yes ho
        rw [← hk] at e1
        rw [← HZ.out] at e2
        have E : Hid (openK S = _ ∧ openB S = _ ∧ openE S = _) := ⟨e1, e2, e3⟩
        clear e1 e2 e3 ho hk
        go_wp2_with fail
        go_quiet (fail)
        refine then_normal ?_
        go_at_K
        go_wp2_with fail
        go_ret3
        rw [E.out.1, E.out.2.1, E.out.2.2]
        exact ⟨rfl, hB.trans (below_drewn _ _ _)⟩
      · have hqq := text_ne hq
        have ho : openS p = none := by
          unfold openS
          rw [if_neg]
          exact fun q => hq (HS.out.trans q.2.2)
        obtain ⟨e1, e2, e3⟩ := open_no ho
        have E : Hid (openK p = _ ∧ openB p = _ ∧ openE p = _) := ⟨e1, e2, e3⟩
        clear e1 e2 e3 ho hk
        go_wp2_with fail
        go_ret3
        rw [E.out.1, E.out.2.1, E.out.2.2]
        exact ⟨rfl, hB⟩
    · have hli : (1013 : Int) < z := by omega
      obtain ⟨e1, e2, e3⟩ := open_no (p := p) (by unfold openS; rw [if_neg]; rw [← HZ.out]; exact fun q => hl q.2.1)
      go_wp2_with fail
      go_ret3
      rw [e1, e2, e3]
      exact ⟨rfl, below_drewn _ _ _⟩
  · have h1 : ¬ (p.size : Int) = 1024 := by omega
    obtain ⟨e1, e2, e3⟩ := open_no (p := p) (by unfold openS; rw [if_neg]; exact fun q => h q.1)
    rw [e1, e2, e3]
    go_enter Tryd.func12, Tryd.ntmps12
    go_wp2_with fail
    go_ret3
    exact ⟨rfl, Below.refl _ _⟩
end Go.Proofs.YtjbenoaefjlbaaaDoor
