/-
  What the document's calls of New, Clear and goes do.
-/
import Derived.Test.YtonmjkalkkfhhaaDRefM
namespace Go.Proofs.Ytonmjkalkkfhhaa
open Go Go.RowKit Go.Maps

section
variable {w w' : World} {base rb : Nat} {vl vp vf : Value} {R : RDev}
theorem RAt.keptL (h : RAt w base rb vl vp vf R) (o : Only rb w w') : w'.ownsRow base 9 1 vl R.lasts.length (R.lasts.map fun s => .string s) := owns_keep h.lasts fun k hk => o.block k (h.lt (.inr (.inl hk))) (fun q => h.ne.1 (q ▸ hk))
theorem RAt.keptP' (h : RAt w base rb vl vp vf R) (o : Only rb w w') : w'.ownsRow base 71 2 vp R.puts.length (wcells R.puts) := owns_keep h.puts fun k hk => o.block k (h.lt (.inr (.inr (.inl hk)))) (fun q => h.ne.2.1 (q ▸ hk))
theorem RAt.keptF (h : RAt w base rb vl vp vf R) (o : Only rb w w') : w'.ownsRow base 3 1 vf R.fails.length (R.fails.map fun x => .int .i64 x) := owns_keep h.fails fun k hk => o.block k (h.lt (.inr (.inr (.inr hk)))) (fun q => h.ne.2.2 (q ▸ hk))
set_option maxRecDepth 8000 in
theorem rclear_any (h : RAt w base rb vl vp vf R) : Calls Try.prog 23 #[.pointer (some ⟨rb, 0, none⟩)] w fun e w' => e = .returned (.tuple #[]) ∧ RAt w' base rb vl vp (.slice none 0 0) { R with armed := false, left := 0, fails := [] } ∧ Only rb w w' := by
  have hc5 : w.cell? ⟨rb, 5, none⟩ = some (.bool R.armed) := h.cells.cell 5
  have hf5 := h.cells.frozen 5
  have hc6 : w.cell? ⟨rb, 6, none⟩ = some (.int .i64 R.left) := h.cells.cell 6
  have hf6 := h.cells.frozen 6
  have hc7 : w.cell? ⟨rb, 7, none⟩ = some vf := h.cells.cell 7
  have hf7 := h.cells.frozen 7
  go_enter Try.func23, Try.ntmps23
  go_wp2_with fail
  go_end0
  have o := (((Only.refl rb w).set 5 (.bool false)).set 6 (.int .i64 0)).set 7 (.slice none 0 0)
  exact ⟨rfl, ⟨(((h.cells.set 5 _).set 6 _).set 7 _).congr rfl, h.keptL o, h.keptP' o, World.ownsRow_nil _ _ _ _, h.new⟩, o⟩
end
theorem zeroRDisk : ∀ w, (zeroValue 45).run Try.prog w = .ok (.agg (rcells (.slice none 0 0) (.slice none 0 0) (.slice none 0 0) ⟨0, [], [], false, 0, false, 0, [], 0⟩)) w := (zero_of_info (n := 9) (by kernel_rfl)).1
set_option maxRecDepth 8000 in
theorem rnew_any (n : Int) (w : World) (base : Nat) (hb : base ≤ w.heap.size) : Calls Try.prog 11 #[.int .i64 n] w fun e w' => e = .returned (.pointer (some ⟨w.heap.size, 0, none⟩)) ∧ RAt w' base w.heap.size (.slice none 0 0) (.slice none 0 0) (.slice none 0 0) (RDev.new n) ∧ Below w.heap.size w w' := by
  have hz := zeroRDisk
  unfold rcells at hz
  go_enter Try.func11, Try.ntmps11
  go_wp2_with fail
  refine (kept_any n _).mono ?_
  rintro e w1 ⟨rfl, rfl⟩
  go_wp2_with fail
  go_ret
  exact ⟨rfl, ⟨Holds.new _ _ _, World.ownsRow_nil _ _ _ _, World.ownsRow_nil _ _ _ _, World.ownsRow_nil _ _ _ _, hb⟩, below_new1 _ _⟩
/-- A row's cells. -/
theorem row_at {α : Type} {w : World} {base : Nat} {t : TypeId} {v : Value} {l : List α} {f : α → Value} (h : w.ownsRow base t 1 v l.length (l.map f)) {i : Nat} {x : α} (hx : l[i]? = some x) :
    ∃ g cap, v = .slice (some ⟨g, 0, none⟩) l.length cap ∧ w.cell? ⟨g, i, none⟩ = some (f x) := by
  have hi := (List.getElem?_eq_some_iff.1 hx).1
  rcases h.2 with ⟨_, h0⟩ | ⟨g, cap, cur, rfl, h1, h2, _⟩
  · omega
  · refine ⟨g, cap, rfl, ?_⟩
    have := h.cellAt i (by simpa using hi)
    rw [this, List.getElem?_map, hx]
    rfl
theorem slice_of {w : World} {base size n : Nat} {t : TypeId} {v : Value} {xs : List Value} (h : w.ownsRow base t size v n xs) : ∃ p cap, v = .slice p n cap := by
  rcases h.2 with ⟨rfl, h0⟩ | ⟨g, cap, cur, rfl, _⟩
  · exact ⟨none, 0, by rw [h0]⟩
  · exact ⟨_, cap, rfl⟩
/-- One operation more. -/
def RDev.one (R : RDev) : RDev := { R with left := if R.armed then R.left - 1 else R.left, since := R.since + 1 }
theorem rone_off {vl vp vf : Value} {R : RDev} (ha : R.armed = false) : rcells vl vp vf R.one = (rcells vl vp vf R).setIfInBounds 8 (.int .i64 (R.since + 1)) := by
  cases R
  subst ha
  rfl
theorem rone_on {vl vp vf : Value} {R : RDev} (ha : R.armed = true) : rcells vl vp vf R.one = ((rcells vl vp vf R).setIfInBounds 6 (.int .i64 (R.left - 1))).setIfInBounds 8 (.int .i64 (R.since + 1)) := by
  cases R
  subst ha
  rfl
theorem goes_off {R : RDev} (h : R.armed = true ∧ R.left = 0) : R.goes = (15, { R with off := true }) := if_pos h
theorem goes_fails {R : RDev} (h : ¬ (R.armed = true ∧ R.left = 0)) (hf : R.since + 1 ∈ R.fails) : R.goes = (14, R.one) := by
  unfold RDev.goes
  rw [if_neg h, if_pos hf]
  rfl
theorem goes_ok {R : RDev} (h : ¬ (R.armed = true ∧ R.left = 0)) (hf : ¬ R.since + 1 ∈ R.fails) : R.goes = (0, { R.one with done := R.done + 1 }) := by
  unfold RDev.goes
  rw [if_neg h, if_neg hf]
  rfl
theorem then_normalD {K : Act → World → Prop} {Q : Exit → Act → World → Prop} {a : Act} {w : World} (h : K a w) : Exit.then K Q .normal a w := h
theorem Only.drewN' {b : Nat} {w w' : World} (h : Only b w w') (n : Nat) : Only b w (w'.drewN n) := ⟨h.os, h.tape, h.output, h.size, h.block⟩
section
variable {w : World} {base rb : Nat} {vl vp vf : Value} {R : RDev}
set_option maxRecDepth 8000 in
set_option maxHeartbeats 4000000 in
theorem goes_any (h : RAt w base rb vl vp vf R) (hl : 0 ≤ R.left ∧ R.left ≤ 9223372036854775807) (hs : 0 ≤ R.since ∧ R.since ≤ 1000000000) (hd : 0 ≤ R.done ∧ R.done ≤ 1000000000) (hlen : R.fails.length ≤ 9223372036854775807) :
    Calls Try.prog 40 #[.pointer (some ⟨rb, 0, none⟩)] w fun e w' => e = .returned (.int .i64 R.goes.1) ∧ RAt w' base rb vl vp vf R.goes.2 ∧ Only rb w w' := by
  have hc3 : w.cell? ⟨rb, 3, none⟩ = some (.bool R.off) := h.cells.cell 3
  have hf3 := h.cells.frozen 3
  have hc4 : w.cell? ⟨rb, 4, none⟩ = some (.int .i64 R.done) := h.cells.cell 4
  have hf4 := h.cells.frozen 4
  have hc5 : w.cell? ⟨rb, 5, none⟩ = some (.bool R.armed) := h.cells.cell 5
  have hc6 : w.cell? ⟨rb, 6, none⟩ = some (.int .i64 R.left) := h.cells.cell 6
  have hf6 := h.cells.frozen 6
  have hc8 : w.cell? ⟨rb, 8, none⟩ = some (.int .i64 R.since) := h.cells.cell 8
  have hf8 := h.cells.frozen 8
  obtain ⟨ls, hls⟩ : ∃ ls, ls = R.left := ⟨_, rfl⟩
  obtain ⟨si, hsi⟩ : ∃ si, si = R.since := ⟨_, rfl⟩
  rw [← hls] at hc6 hl
  rw [← hsi] at hc8 hs
  have HLS : Hid (ls = R.left ∧ si = R.since) := ⟨hls, hsi⟩
  clear hls hsi
  cases ha : R.armed
  · rw [ha] at hc5
    have HA : Hid (R.armed = false) := ha
    have hone : Hid (rcells vl vp vf R.one = (rcells vl vp vf R).setIfInBounds 8 (.int .i64 (si + 1))) := by
      rw [HLS.out.2]
      exact rone_off ha
    clear ha
    go_enter Try.func40, Try.ntmps40
    go_wp2_with fail
    have hR1 : RAt (w.setCell ⟨rb, 8, none⟩ (.int .i64 (si + 1))) base rb vl vp vf R.one := h.turn ((Only.refl rb w).set 8 _) ((h.cells.set 8 _).congr hone.out.symm) rfl rfl rfl
    have hO : Only rb w (w.setCell ⟨rb, 8, none⟩ (.int .i64 (si + 1))) := (Only.refl rb w).set 8 _
    clear hc3 hf3 hc4 hf4 hc5 hc6 hf6 hc8 hf8
    generalize w.setCell ⟨rb, 8, none⟩ (.int .i64 (si + 1)) = W1 at hR1 hO ⊢
    have F0 : Hid (RAt W1 base rb vl vp vf R.one ∧ Only rb w W1) := ⟨hR1, hO⟩
    clear hR1 hO
    go_loopw [3] (fun y wr => ∃ i : Nat, y = .int .i64 (i : Nat) ∧ i ≤ R.fails.length ∧ RAt wr base rb vl vp vf R.one ∧ Only rb w wr ∧ ∀ (j : Nat) (x : Int), j < i → R.fails[j]? = some x → x ≠ R.since + 1) (fun y _ => R.fails.length - (intOf y).toNat)
    case atStart => exact ⟨0, rfl, by omega, F0.out.1, F0.out.2, fun j x hj => absurd hj (by omega)⟩
    case round =>
      clear F0
      obtain ⟨i, rfl, hi, hR, hO, hno⟩ := hrel
      have c8 : wr.cell? ⟨rb, 8, none⟩ = some (.int .i64 (R.since + 1)) := hR.cells.cell 8
      rw [← HLS.out.2] at c8
      have c7 : wr.cell? ⟨rb, 7, none⟩ = some vf := hR.cells.cell 7
      have HF : Hid (RAt wr base rb vl vp vf R.one ∧ Only rb w wr ∧ ∀ (j : Nat) (x : Int), j < i → R.fails[j]? = some x → x ≠ R.since + 1) := ⟨hR, hO, hno⟩
      obtain ⟨N, hN⟩ : ∃ N, N = R.fails.length := ⟨_, rfl⟩
      rw [← hN] at hi hlen
      have hNi : (N : Int) ≤ 9223372036854775807 := by omega
      by_cases hil : i < N
      · have hii : (i : Int) < N := by omega
        obtain ⟨x, hx⟩ : ∃ x, R.fails[i]? = some x := ⟨_, List.getElem?_eq_getElem (by omega)⟩
        obtain ⟨gf, cap, hvf, hcx⟩ := row_at (f := fun x => Value.int .i64 x) hR.fails (x := x) hx
        rw [show R.one.fails.length = N from hN.symm] at hvf
        have HN : Hid (N = R.fails.length) := hN
        have HX : Hid (R.fails[i]? = some x) := hx
        subst hvf
        clear hR hO hno hN hx
        by_cases he : x = si + 1
        · have heb : (x == si + 1) = true := by rw [he]; exact beq_self_eq_true _
          go_wp2_with fail
          go_quiet (fail)
          refine then_normalD ?_
          go_at_K
          go_wp2_with fail
          go_ret
          have hg := goes_fails (R := R) (by rw [HA.out]; simp) (by rw [← HLS.out.2, ← he]; exact List.mem_of_getElem? HX.out)
          rw [hg]
          exact ⟨rfl, HF.out.1.same fun k _ => rfl, HF.out.2.1.drewN' _⟩
        · have heb : (x == si + 1) = false := beq_eq_false_iff_ne.2 he
          go_wp2_with fail
          go_quiet (fail)
          refine then_normalD ?_
          go_at_K
          go_wp2_with fail
          refine ⟨⟨i + 1, by go_num, by have := HN.out; omega, HF.out.1.same fun k _ => rfl, HF.out.2.1.drewN' _, fun j z hj hz => ?_⟩, by simp [intOf]; have := HN.out; omega⟩
          by_cases hji : j < i
          · exact HF.out.2.2 j z hji hz
          · obtain rfl : j = i := by omega
            rw [HX.out] at hz
            injection hz with hz
            rw [← hz, ← HLS.out.2]
            exact he
      · have hii : ¬ (i : Int) < N := by omega
        obtain ⟨pf, cap, hvf⟩ := slice_of hR.fails
        rw [show R.one.fails.length = N from hN.symm] at hvf
        have HN : Hid (N = R.fails.length) := hN
        have HV : Hid (vf = .slice pf N cap) := hvf
        rw [hvf] at c7
        have c4 : wr.cell? ⟨rb, 4, none⟩ = some (.int .i64 R.done) := hR.cells.cell 4
        have f4 := hR.cells.frozen 4
        clear hvf hN hR hO hno
        go_wp2_with fail
        go_ret
        have hg := goes_ok (R := R) (by rw [HA.out]; simp) (fun q => by
          obtain ⟨j, hj, e⟩ := List.getElem_of_mem q
          exact HF.out.2.2 j _ (by have := HN.out; omega) (List.getElem?_eq_getElem hj) e)
        rw [hg]
        have o2 := (Only.refl rb wr).set 4 (.int .i64 (R.done + 1))
        exact ⟨rfl, HF.out.1.turn o2 ((HF.out.1.cells.set 4 _).congr rfl) rfl rfl rfl, HF.out.2.1.trans o2⟩
  · rw [ha] at hc5
    have HA : Hid (R.armed = true) := ha
    by_cases h0 : ls = 0
    · have h0b : (ls == 0) = true := by rw [h0]; rfl
      clear ha
      go_enter Try.func40, Try.ntmps40
      go_wp2_with fail
      go_ret
      rw [goes_off ⟨HA.out, by rw [← HLS.out.1]; exact h0⟩]
      exact ⟨rfl, h.turn ((Only.refl _ _).set 3 _) ((h.cells.set 3 _).congr rfl) rfl rfl rfl, (Only.refl _ _).set 3 _⟩
    · have h0b : (ls == 0) = false := beq_eq_false_iff_ne.2 h0
      have hone : Hid (rcells vl vp vf R.one = ((rcells vl vp vf R).setIfInBounds 6 (.int .i64 (ls - 1))).setIfInBounds 8 (.int .i64 (si + 1))) := by
        rw [HLS.out.2, HLS.out.1]
        exact rone_on ha
      have hnot : Hid (¬ R.left = 0) := fun q => h0 (HLS.out.1.trans q)
      clear ha
      go_enter Try.func40, Try.ntmps40
      go_wp2_with fail
      have hR1 : RAt ((w.setCell ⟨rb, 6, none⟩ (.int .i64 (ls - 1))).setCell ⟨rb, 8, none⟩ (.int .i64 (si + 1))) base rb vl vp vf R.one := h.turn (((Only.refl rb w).set 6 _).set 8 _) (((h.cells.set 6 _).set 8 _).congr hone.out.symm) rfl rfl rfl
      have hO : Only rb w ((w.setCell ⟨rb, 6, none⟩ (.int .i64 (ls - 1))).setCell ⟨rb, 8, none⟩ (.int .i64 (si + 1))) := ((Only.refl rb w).set 6 _).set 8 _
      clear hc3 hf3 hc4 hf4 hc5 hc6 hf6 hc8 hf8
      generalize (w.setCell ⟨rb, 6, none⟩ (.int .i64 (ls - 1))).setCell ⟨rb, 8, none⟩ (.int .i64 (si + 1)) = W1 at hR1 hO ⊢
      have F0 : Hid (RAt W1 base rb vl vp vf R.one ∧ Only rb w W1) := ⟨hR1, hO⟩
      clear hR1 hO
      go_loopw [3] (fun y wr => ∃ i : Nat, y = .int .i64 (i : Nat) ∧ i ≤ R.fails.length ∧ RAt wr base rb vl vp vf R.one ∧ Only rb w wr ∧ ∀ (j : Nat) (x : Int), j < i → R.fails[j]? = some x → x ≠ R.since + 1) (fun y _ => R.fails.length - (intOf y).toNat)
      case atStart => exact ⟨0, rfl, by omega, F0.out.1, F0.out.2, fun j x hj => absurd hj (by omega)⟩
      case round =>
        clear F0
        obtain ⟨i, rfl, hi, hR, hO, hno⟩ := hrel
        have c8 : wr.cell? ⟨rb, 8, none⟩ = some (.int .i64 (R.since + 1)) := hR.cells.cell 8
        rw [← HLS.out.2] at c8
        have c7 : wr.cell? ⟨rb, 7, none⟩ = some vf := hR.cells.cell 7
        have HF : Hid (RAt wr base rb vl vp vf R.one ∧ Only rb w wr ∧ ∀ (j : Nat) (x : Int), j < i → R.fails[j]? = some x → x ≠ R.since + 1) := ⟨hR, hO, hno⟩
        obtain ⟨N, hN⟩ : ∃ N, N = R.fails.length := ⟨_, rfl⟩
        rw [← hN] at hi hlen
        have hNi : (N : Int) ≤ 9223372036854775807 := by omega
        by_cases hil : i < N
        · have hii : (i : Int) < N := by omega
          obtain ⟨x, hx⟩ : ∃ x, R.fails[i]? = some x := ⟨_, List.getElem?_eq_getElem (by omega)⟩
          obtain ⟨gf, cap, hvf, hcx⟩ := row_at (f := fun x => Value.int .i64 x) hR.fails (x := x) hx
          rw [show R.one.fails.length = N from hN.symm] at hvf
          have HN : Hid (N = R.fails.length) := hN
          have HX : Hid (R.fails[i]? = some x) := hx
          subst hvf
          clear hR hO hno hN hx
          by_cases he : x = si + 1
          · have heb : (x == si + 1) = true := by rw [he]; exact beq_self_eq_true _
            go_wp2_with fail
            go_quiet (fail)
            refine then_normalD ?_
            go_at_K
            go_wp2_with fail
            go_ret
            have hg := goes_fails (R := R) (fun q => hnot.out q.2) (by rw [← HLS.out.2, ← he]; exact List.mem_of_getElem? HX.out)
            rw [hg]
            exact ⟨rfl, HF.out.1.same fun k _ => rfl, HF.out.2.1.drewN' _⟩
          · have heb : (x == si + 1) = false := beq_eq_false_iff_ne.2 he
            go_wp2_with fail
            go_quiet (fail)
            refine then_normalD ?_
            go_at_K
            go_wp2_with fail
            refine ⟨⟨i + 1, by go_num, by have := HN.out; omega, HF.out.1.same fun k _ => rfl, HF.out.2.1.drewN' _, fun j z hj hz => ?_⟩, by simp [intOf]; have := HN.out; omega⟩
            by_cases hji : j < i
            · exact HF.out.2.2 j z hji hz
            · obtain rfl : j = i := by omega
              rw [HX.out] at hz
              injection hz with hz
              rw [← hz, ← HLS.out.2]
              exact he
        · have hii : ¬ (i : Int) < N := by omega
          obtain ⟨pf, cap, hvf⟩ := slice_of hR.fails
          rw [show R.one.fails.length = N from hN.symm] at hvf
          have HN : Hid (N = R.fails.length) := hN
          have HV : Hid (vf = .slice pf N cap) := hvf
          rw [hvf] at c7
          have c4 : wr.cell? ⟨rb, 4, none⟩ = some (.int .i64 R.done) := hR.cells.cell 4
          have f4 := hR.cells.frozen 4
          clear hvf hN hR hO hno
          go_wp2_with fail
          go_ret
          have hg := goes_ok (R := R) (fun q => hnot.out q.2) (fun q => by
            obtain ⟨j, hj, e⟩ := List.getElem_of_mem q
            exact HF.out.2.2 j _ (by have := HN.out; omega) (List.getElem?_eq_getElem hj) e)
          rw [hg]
          have o2 := (Only.refl rb wr).set 4 (.int .i64 (R.done + 1))
          exact ⟨rfl, HF.out.1.turn o2 ((HF.out.1.cells.set 4 _).congr rfl) rfl rfl rfl, HF.out.2.1.trans o2⟩
end
end Go.Proofs.Ytonmjkalkkfhhaa
