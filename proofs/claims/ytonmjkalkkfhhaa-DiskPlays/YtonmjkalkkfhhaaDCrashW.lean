/-
  What Crash does.
-/
import Derived.Test.YtonmjkalkkfhhaaDKeepW
namespace Go.Proofs.Ytonmjkalkkfhhaa
open Go Go.RowKit Go.Maps

theorem underIntSl : Try.prog.underlying 28 = some (.slice 3) := Try.underlying28
theorem elemIntSl : Try.prog.elem 28 = 3 := by kernel_rfl
theorem htIntSl : Try.prog.underlying 28 = some (.slice (Try.prog.elem 28)) := by rw [elemIntSl]; exact underIntSl
theorem sizeInt (w : World) : (Go.sizeOf 3).run Try.prog w = .ok 1 w := Try.sizeOf3 w

/-- The rest of a slice of integers. -/
theorem ints_from (p : Option Addr) {n c : Nat} (m : Nat) (hm : m ≤ n) (hnc : n ≤ c) :
    ∃ p', (∀ w, (Instr.sliceAt 28 (.slice p n c) (some (.int .i64 (m : Int))) none none).run Try.prog w = .ok (.slice p' (n - m) (c - m)) w) ∧ ∀ W l, IntsAt W (.slice p n c) l → IntsAt W (.slice p' (n - m) (c - m)) (l.drop m) := by
  refine ⟨p.map fun a => if c = m then a else a.add (m * 1), fun w => ?_, fun W l h => ?_⟩
  · rw [run_sliceAt_slice w _ _ _ _ _ htIntSl, run_slice_l w _ _ _ _ htIntSl .i64 (m : Int) (by omega) (by omega), elemIntSl, sizeInt, Result.andThen_ok]
    unfold sliced
    simp
    split
    · cases p <;> rfl
    · rfl
  · rcases h with ⟨rfl, q, c', e⟩ | ⟨b, o, c', e, hc⟩
    · injection e with _ e2 _
      exact .inl ⟨by simp, _, c - m, by rw [show n - m = 0 by omega]⟩
    · injection e with e1 e2 e3
      subst e1 e3
      by_cases h0 : n - m = 0
      · exact .inl ⟨List.drop_of_length_le (by omega), _, c - m, by rw [h0]⟩
      · refine .inr ⟨b, o + m, c - m, ?_, fun i hi => ?_⟩
        · rw [Option.map_some, if_neg (by omega), Addr.add_mid, List.length_drop, e2, Nat.mul_one]
        · rw [List.length_drop] at hi
          have := hc (m + i) (by omega)
          rw [show o + m + i = o + (m + i) by omega, this]
          simp [List.getD_eq_getElem?_getD]

/-- The power goes, and comes again. -/
def Dev.crash (D : Dev) (picks : List Int) : Dev := { D with pages := crashTo D.writes picks D.pages, writes := [], off := false, armed := false, left := 0, fails := fun _ => Option.none, count := 0 }
theorem crash_ok {D : Dev} {N : Nat} (ok : D.ok N) (picks : List Int) : (D.crash picks).ok N := by
  have h := okM.crash (picks := picks) ok.okM ok.writes
  exact ⟨ok.size, fun u x hu => (h u x hu).1, fun u x hu => (h u x hu).2, fun p hp => by simp [Dev.crash] at hp, by simp [Dev.crash], ok.ops, by simp [Dev.crash], by simp [Dev.crash]⟩

set_option maxRecDepth 8000 in
set_option maxHeartbeats 2000000 in
theorem crash_any {w : World} {h : Hd} {D : Dev} (a : DiskAt w h D) {N : Nat} (ok : D.ok N) (hN : N < 1000000000) {p : Option Addr} {n c : Nat} {l : List Int} (hl : ∀ W, Keep (Foot h) w W → IntsAt W (.slice p n c) l) (hnl : n = l.length) (hnc : n ≤ c) (hlm : l.length ≤ 9223372036854775807) :
    Calls Try.prog 16 #[.pointer (some ⟨h.b, 0, none⟩), .slice p n c] w fun e w' => e = .returned (.tuple #[]) ∧ WRow w' h.wv D.writes ∧ ∃ h', h'.fo = none ∧ h'.wv = .slice none 0 0 ∧ Done w h w' h' (D.crash l) := by
  have hq := ptr_eql
  obtain ⟨b, po, wv, fo⟩ := h
  obtain ⟨p0, c0, hv⟩ := a.writes.len
  dsimp only at hv
  subst hv
  have hwr := ok.writes
  have hM := ok.okM
  have hmany := ok.many
  have hLi : (D.writes.length : Int) ≤ 1000000000 := by omega
  have c2 : w.cell? ⟨b, 2, none⟩ = some (.slice p0 D.writes.length c0) := a.ptr.cell 2
  have hbu := buildP
  go_enter Try.func16, Try.ntmps16
  go_wp2_with fail
  go_loopw [1, 13] (fun x y wr => ∃ k : Nat, y = .int .i64 (k : Nat) ∧ k ≤ D.writes.length ∧ (∃ p' n' c', x = .slice p' n' c' ∧ n' = (l.drop (4 * k)).length ∧ n' ≤ c' ∧ ∀ W, Keep (Foot ⟨b, po, .slice p0 D.writes.length c0, fo⟩) w W → IntsAt W (.slice p' n' c') (l.drop (4 * k))) ∧ ∃ h', h'.wv = .slice p0 D.writes.length c0 ∧ Done w ⟨b, po, .slice p0 D.writes.length c0, fo⟩ wr h' { D with pages := crashTo (D.writes.take k) l D.pages }) (fun _ y _ => D.writes.length - (intOf y).toNat)
  case atStart => exact ⟨0, rfl, Nat.zero_le _, ⟨p, n, c, rfl, hnl, hnc, hl⟩, _, rfl, Done.refl a⟩
  case round =>
    obtain ⟨k, rfl, hkL, ⟨p', n', c', rfl, hn', hnc', hl'⟩, ⟨b', po', wv', fo'⟩, hv', hdk⟩ := hrel
    dsimp only at hv'
    subst hv'
    have hb' : b' = b := hdk.newer.1
    subst hb'
    have hdl : (l.drop (4 * k)).length ≤ 9223372036854775807 := by rw [List.length_drop]; omega
    by_cases hk : k < D.writes.length
    · have hki : (k : Int) < D.writes.length := by omega
      obtain ⟨q, hpk⟩ : ∃ q, D.writes[k]? = some q := ⟨_, List.getElem?_eq_getElem hk⟩
      have hpm := hwr q (List.mem_of_getElem? hpk)
      have ak := hdk.at_
      obtain ⟨g, cap, e0, hlc, hcm, hgl, q0, q1⟩ := ak.writes.at hpk
      injection e0 with e1 e2 e3
      subst e1 e3
      have hMk : okM (crashTo (D.writes.take k) l D.pages) := okM.crash hM (fun p hp => hwr p (List.mem_of_mem_take hp))
      have hkp := keep_any (ak.below (below_new1 wr (.cells #[.int .i64 q.1, .string q.2] 73))) hMk q.1 q.2 ⟨hpm.1, hpm.2.1⟩ hpm.2.2 (v := .slice p' n' c') (l := l.drop (4 * k)) (fun W hW => hl' W ((hdk.below (below_new1 _ _)).keep.trans hW hdk.newer.2)) hdl
      dsimp only at hkp
      have hs : keepM (crashTo (D.writes.take k) l D.pages) (q.1, q.2) (l.drop (4 * k)) = crashTo (D.writes.take (k + 1)) l D.pages := by
        rw [List.take_add_one, hpk, Option.toList_some, crashTo_app, List.length_take, show min k D.writes.length = k by omega]
      rw [hs] at hkp
      clear hs
      obtain ⟨mm, hmm⟩ : ∃ mm, min 4 n' = mm := ⟨_, rfl⟩
      have hmi : min (4 : Int) n' = (mm : Int) := by omega
      obtain ⟨p2, hs2, hl2⟩ := ints_from p' (n := n') (c := c') mm (by omega) hnc'
      have HL : Hid (l.drop (4 * (k + 1)) = (l.drop (4 * k)).drop mm) := by
        show _ = _
        rw [List.drop_drop]
        by_cases h4 : 4 ≤ n'
        · congr 1; omega
        · rw [List.length_drop] at hn'
          rw [List.drop_of_length_le (by omega), List.drop_of_length_le (by omega)]
      have HN : Hid (n' - mm = (l.drop (4 * (k + 1))).length) := by
        show _ = _
        rw [HL.out, List.length_drop, ← hn']
      have hnn : (n' : Int) ≤ 9223372036854775807 := by omega
      clear ak a e2 hmm hn' hdl
      go_wp2_with (first
        | (go_at_call 44; refine hkp.mono ?_; rintro e w3 ⟨rfl, h3, hv3, _, hd3⟩; clear hkp))
      go_roundw
      case rel => exact ⟨k + 1, by go_num, by omega, ⟨p2, n' - mm, c' - mm, rfl, HN.out, by omega, fun W hW => by rw [HL.out]; exact hl2 W _ (hl' W hW)⟩, h3, hv3, (hdk.below (below_new1 _ _)).trans hd3⟩
      case measure => simp [intOf]; omega
    · have hkl : k = D.writes.length := by omega
      have ak := hdk.at_
      have k2 : wr.cell? ⟨b', 2, none⟩ = some (.slice p0 D.writes.length c0) := ak.ptr.cell 2
      have f2 := frozenD ak 2
      have hni : ¬ (k : Int) < D.writes.length := by omega
      have hdw := Done.wrote ak (Keep.refl _ _) (v := .slice none 0 0) (L := []) (.inl ⟨rfl, rfl⟩) (fun k hk => by obtain ⟨n, c, e, _⟩ := hk; cases e)
      dsimp only at hdw
      obtain ⟨W1, hW1⟩ : ∃ W, wr.setCell ⟨b', 2, none⟩ (.slice none 0 0) = W := ⟨_, rfl⟩
      rw [hW1] at hdw
      have a1 := hdw.at_
      have k4 : W1.cell? ⟨b', 4, none⟩ = some (.bool D.off) := a1.ptr.cell 4
      have f4 := frozenD a1 4
      dsimp only at f4
      have hd4 := Done.turn (D' := { D with pages := crashTo (D.writes.take k) l D.pages, writes := [], off := false }) a1 ((Only.refl _ _).set 4 (.bool false)) ((a1.ptr.set 4 _).congr rfl) rfl rfl rfl
      dsimp only at hd4
      obtain ⟨W2, hW2⟩ : ∃ W, W1.setCell ⟨b', 4, none⟩ (.bool false) = W := ⟨_, rfl⟩
      rw [hW2] at hd4
      have hcl := clear_any hd4.at_
      dsimp only at hcl
      have HRW : Hid (WRow W2 (.slice p0 D.writes.length c0) D.writes ∧ ∀ k, (Value.slice p0 D.writes.length c0).ownBlock = some k → k < W2.heap.size ∧ ¬ Foot ⟨b', po', .slice none 0 0, fo'⟩ k) := by
        have hrw : WRow wr (.slice p0 D.writes.length c0) D.writes := ak.writes
        have hob := hrw.obj
        have hne : ∀ k, (Value.slice p0 D.writes.length c0).ownBlock = some k → k ≠ b' := by
          rintro k hk rfl
          obtain ⟨cur, hq⟩ := hob _ hk
          have := ak.ptr
          unfold Holds at this
          rw [this] at hq
          injection hq with hq
          injection hq with _ hq
          exact absurd hq (by decide)
        have hsm : ∀ k, k ≠ b' → W2.heap[k]? = wr.heap[k]? := fun k hk => by
          rw [← hW2, Below.heap_setCell _ _ _ _ hk, ← hW1, Below.heap_setCell _ _ _ _ hk]
        refine ⟨hrw.block fun k hk => hsm k (hne k hk), fun k hk => ⟨?_, ?_⟩⟩
        · have := hrw.lt k hk
          rw [← hW2, ← hW1]
          simpa using this
        · rintro (q | q | ⟨_, _, q, _⟩)
          · exact hne k hk q
          · obtain ⟨cur, hq⟩ := hob k hk
            obtain ⟨es, clock, hq2⟩ := ak.pages.obj k q
            rw [hq2] at hq
            cases hq
          · cases q
      have HX : Hid (Done w ⟨b', po, .slice p0 D.writes.length c0, fo⟩ W2 ⟨b', po', .slice none 0 0, fo'⟩ { D with pages := crashTo D.writes l D.pages, writes := [], off := false }) := by
        have := (hdk.trans hdw).trans hd4
        rw [hkl, List.take_length] at this
        exact this
      rw [hkl, List.take_length] at hcl
      clear hdw hdk ak hd4 a a1 hn' hdl hkl
      go_wp2_with (first
        | (go_at_call 22; refine hcl.mono ?_; rintro e w3 ⟨rfl, h3, hv3, hf3, hd3⟩; clear hcl))
      go_end0
      exact ⟨rfl, HRW.out.1.block fun k hk => hd3.keep.block k (HRW.out.2 k hk).1 (HRW.out.2 k hk).2, h3, hf3, hv3, HX.out.trans hd3⟩
theorem crash_nil (v : Value) (w : World) : Calls Try.prog 16 #[.pointer none, v] w fun e w' => e = .returned (.tuple #[]) ∧ w' = w := by
  have hq := ptr_eql
  go_enter Try.func16, Try.ntmps16
  go_wp2_with fail
  exact bodyPost_ret (results_none rfl _ _ _) rfl ⟨rfl, rfl⟩
end Go.Proofs.Ytonmjkalkkfhhaa
