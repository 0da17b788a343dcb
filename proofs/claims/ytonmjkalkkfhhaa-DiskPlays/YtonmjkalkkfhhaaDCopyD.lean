/-
  What Copy does.
-/
import Derived.Test.YtonmjkalkkfhhaaDOwnG
import Derived.Test.YtonmjkalkkfhhaaDKeepW
namespace Go.Proofs.Ytonmjkalkkfhhaa
open Go Go.RowKit Go.Maps

theorem clone_some {R : Value → Option (DataW Unit × List MemPlace)} {α : Type} {enc : α → DataW Unit} {w : World} {m n : Nat} {M : Int → Option α} (h : MapAt R enc w m n M) :
    Calls Try.prog 45 #[.map (some m)] w fun e w' => e = .returned (.map (some w.heap.size)) ∧ MapAt R enc w' w.heap.size n M ∧ Below w.heap.size w w' := by
  obtain ⟨D, ho, hr⟩ := h
  exact (AnyW.maps_Clone_owns Try.layClone 3 R m n D w ho).mono fun e w' ⟨h1, h2, h3, h4⟩ => ⟨h1, ⟨D, h2, hr⟩, h4⟩
theorem clone_none (w : World) : Calls Try.prog 45 #[.map none] w fun e w' => e = .returned (.map none) ∧ w' = w := AnyW.maps_Clone_nil Try.layClone w
theorem clone_any {w : World} {po : Option Nat} {n : Nat} {M : Int → Option Pg} (h : MapV RP encP w n po M) :
    Calls Try.prog 45 #[.map po] w fun e w' => ∃ po2, e = .returned (.map po2) ∧ MapV RP encP w' n po2 M ∧ (∀ m, po2 = some m → w.heap.size ≤ m) ∧ Below w.heap.size w w' := by
  cases po with
  | none => exact (clone_none w).mono fun e w' ⟨h1, h2⟩ => ⟨none, h1, h, fun m e => (by cases e), h2 ▸ Below.refl _ _⟩
  | some m => exact (clone_some h).mono fun e w' ⟨h1, h2, h3⟩ => ⟨some w.heap.size, h1, h2, fun m e => (by injection e with e; omega), h3⟩
theorem elemWr : Try.prog.elem 55 = 73 := by kernel_rfl
theorem htWr : Try.prog.underlying 55 = some (.slice (Try.prog.elem 55)) := by rw [elemWr]; exact underWr
theorem sizeWr (w : World) : (Go.sizeOf 73).run Try.prog w = .ok 2 w := Try.sizeOf73 w
/-- Writes without room behind them. -/
def full (v : Value) : Value := match v with
  | .slice p n _ => .slice p n n
  | v => v
theorem full_run {w0 : World} {v : Value} {L : List (Int × ByteArray)} (h : WRow w0 v L) (w : World) : (Instr.sliceAt 55 v none (some (.int .i64 (L.length : Int))) (some (.int .i64 (L.length : Int)))).run Try.prog w = .ok (full v) w := by
  rcases h with ⟨rfl, rfl⟩ | ⟨g, cap, cur, rfl, hg, hlc, hcm, hcs, htk⟩
  · rw [run_sliceAt_slice w _ _ _ _ _ htWr, run_slice_hm w _ _ _ _ htWr .i64 .i64 _ _ (by simp) (by simp) (by simp), elemWr, sizeWr, Result.andThen_ok]
    rfl
  · rw [run_sliceAt_slice w _ _ _ _ _ htWr, run_slice_hm w _ _ _ _ htWr .i64 .i64 _ _ (by omega) (by omega) (by omega), elemWr, sizeWr, Result.andThen_ok]
    unfold sliced full
    simp
    cases hL : L.length <;> simp [Addr.add]
theorem full_row {w : World} {v : Value} {L : List (Int × ByteArray)} (h : WRow w v L) : WRow w (full v) L := by
  rcases h with ⟨rfl, rfl⟩ | ⟨g, cap, cur, rfl, hg, hlc, hcm, hcs, htk⟩
  · exact .inl ⟨rfl, rfl⟩
  · exact .inr ⟨g, L.length, cur, rfl, hg, Nat.le_refl _, by omega, .inr rfl, htk⟩
theorem full_room (v : Value) (k : Nat) : ¬ Room (full v) k := by
  rintro ⟨n, c, e, h⟩
  unfold full at e
  split at e
  · injection e with _ e2 e3
    omega
  · rename_i hne
    exact hne _ _ _ e
theorem full_block (v : Value) : (full v).ownBlock = v.ownBlock := by
  unfold full
  split
  · rename_i p n c
    cases p <;> rfl
  · rfl
theorem infoDk (h : Hd) (D : Dev) : (Try.prog.info? 60).map (·.size) = some (dcells h D).size := by kernel_rfl

set_option maxRecDepth 8000 in
set_option maxHeartbeats 2000000 in
/-- Copy: a device of its own; the old one is as it was. -/
theorem copy_any {w : World} {h : Hd} {D : Dev} (a : DiskAt w h D) (hL : D.writes.length ≤ 1000000000) :
    Calls Try.prog 26 #[.pointer (some ⟨h.b, 0, none⟩)] w fun e w' => ∃ h', e = .returned (.pointer (some ⟨h'.b, 0, none⟩)) ∧ DiskAt w' h' D ∧ (∀ k, Foot h' k → w.heap.size ≤ k) ∧ h'.fo = h.fo ∧ h'.wv = full h.wv ∧ Below w.heap.size w w' := by
  have hq := ptr_eql
  obtain ⟨p0, c0, hv⟩ := a.writes.len
  have hfr0 := full_run a.writes
  have hfw := full_row a.writes
  have hfb := full_block h.wv
  rw [hv] at hfr0
  have hfr : ∀ w, (Instr.sliceAt 55 (.slice p0 D.writes.length c0) none (some (.int .i64 (D.writes.length : Int))) (some (.int .i64 (D.writes.length : Int)))).run Try.prog w = .ok (.slice p0 D.writes.length D.writes.length) w := hfr0
  clear hfr0
  have hflv : full h.wv = .slice p0 D.writes.length D.writes.length := by rw [hv]; rfl
  have c0' : w.cell? ⟨h.b, 0, none⟩ = some (.int .i64 D.size) := a.ptr.cell 0
  have c1 : w.cell? ⟨h.b, 1, none⟩ = some (.map h.po) := a.ptr.cell 1
  have c2 : w.cell? ⟨h.b, 2, none⟩ = some (.slice p0 D.writes.length c0) := by rw [← hv]; exact a.ptr.cell 2
  have c3 : w.cell? ⟨h.b, 3, none⟩ = some (.int .i64 D.ops) := a.ptr.cell 3
  have c4 : w.cell? ⟨h.b, 4, none⟩ = some (.bool D.off) := a.ptr.cell 4
  have c5 : w.cell? ⟨h.b, 5, none⟩ = some (.bool D.armed) := a.ptr.cell 5
  have c6 : w.cell? ⟨h.b, 6, none⟩ = some (.int .i64 D.left) := a.ptr.cell 6
  have c7 : w.cell? ⟨h.b, 7, none⟩ = some (.map h.fo) := a.ptr.cell 7
  have c8 : w.cell? ⟨h.b, 8, none⟩ = some (.int .i64 D.count) := a.ptr.cell 8
  obtain ⟨nb, hnb⟩ : ∃ nb, w.heap.size = nb := ⟨_, rfl⟩
  obtain ⟨W1, hW1⟩ : ∃ W, w.alloc (.cells #[.int .i64 D.size, .map h.po, .slice p0 D.writes.length c0, .int .i64 D.ops, .bool D.off, .bool D.armed, .int .i64 D.left, .map h.fo, .int .i64 D.count] 60) = W := ⟨_, rfl⟩
  have hB1 : Below w.heap.size w W1 := by rw [← hW1]; exact below_new1 _ _
  have hp1 : Holds W1 nb 60 #[.int .i64 D.size, .map h.po, .slice p0 D.writes.length c0, .int .i64 D.ops, .bool D.off, .bool D.armed, .int .i64 D.left, .map h.fo, .int .i64 D.count] := by rw [← hW1, ← hnb]; exact Holds.new _ _ _
  have hz1 : nb < W1.heap.size := hp1.lt
  have a1 := a.below hB1
  have e1 : W1.cell? ⟨h.b, 1, none⟩ = some (.map h.po) := a1.ptr.cell 1
  have hli : (D.writes.length : Int) ≤ 1000000000 := by omega
  have HV : Hid (h.wv = .slice p0 D.writes.length c0) := hv
  have HF : Hid (full h.wv = .slice p0 D.writes.length D.writes.length) := hflv
  have HNB : Hid (w.heap.size = nb) := hnb
  clear hv hflv
  have fin : ∀ (W2 : World) (po2 : Option Nat), Below W1.heap.size W1 W2 → MapV RP encP W2 65536 po2 D.pages → (∀ m, po2 = some m → W1.heap.size ≤ m) →
      DiskAt ((W2.setCell ⟨nb, 1, none⟩ (.map po2)).drew.setCell ⟨nb, 2, none⟩ (.slice p0 D.writes.length D.writes.length)) ⟨nb, po2, full h.wv, h.fo⟩ D ∧ (∀ k, Foot ⟨nb, po2, full h.wv, h.fo⟩ k → w.heap.size ≤ k) ∧ Below w.heap.size w ((W2.setCell ⟨nb, 1, none⟩ (.map po2)).drew.setCell ⟨nb, 2, none⟩ (.slice p0 D.writes.length D.writes.length)) := by
    intro W2 po2 hB2 hm2 hn2
    have a2 := a1.below hB2
    have hp2 := below_holds hB2 hp1
    have hO : ∀ k, k ≠ nb → ((W2.setCell ⟨nb, 1, none⟩ (.map po2)).drew.setCell ⟨nb, 2, none⟩ (.slice p0 D.writes.length D.writes.length)).heap[k]? = W2.heap[k]? := fun k hk => by
      rw [Below.heap_setCell _ _ _ _ hk]
      exact Below.heap_setCell _ _ _ _ hk
    have hlt := a.lt
    have hnb' := HNB.out
    refine ⟨⟨?_, ?_, ?_, ?_, ?_⟩, ?_, ?_⟩
    · refine (((hp2.set 1 (.map po2)).drew.set 2 (.slice p0 D.writes.length D.writes.length))).congr ?_
      unfold dcells
      dsimp only
      rw [HF.out]
      rfl
    · exact hm2.block fun m e => hO m (by have := hn2 m e; omega)
    · refine (full_row a2.writes).block fun k hk => hO k ?_
      rw [full_block] at hk
      have := hlt k (.inr (.inr (.inr hk)))
      omega
    · obtain ⟨n, hf⟩ := a2.fails
      exact ⟨n, hf.block fun m e => hO m (by have := hlt m (.inr (.inr (.inl e))); omega)⟩
    · intro m e q
      have := hlt m (.inr (.inr (.inl e)))
      have := hn2 m q
      have := hB1.size
      omega
    · rintro k (q | q | q)
      · dsimp only at q; omega
      · have := hn2 k q; have := hB1.size; omega
      · exact absurd q (full_room _ _)
    · have hb := below_new hB1 hB2
      exact ((hb.setCell (by show _ ≤ nb; omega) _).drew).setCell (by show _ ≤ nb; omega) _
  have hcl := clone_any a1.pages
  have hlt := a.ptr.lt
  go_enter Try.func26, Try.ntmps26
  go_wp2_with fail
  refine hcl.mono ?_
  rintro e W2 ⟨po2, rfl, hm2, hn2, hB2⟩
  clear hcl
  have hfin := fin W2 po2 hB2 hm2 hn2
  have hp2 := below_holds hB2 hp1
  have g1 : W2.cell? ⟨nb, 1, none⟩ = some (.map h.po) := hp2.cell 1
  have gf1 := hp2.frozen 1
  obtain ⟨W3, hW3⟩ : ∃ W, W2.setCell ⟨nb, 1, none⟩ (.map po2) = W := ⟨_, rfl⟩
  rw [hW3] at hfin
  have k2 : W3.drew.cell? ⟨h.b, 2, none⟩ = some (.slice p0 D.writes.length c0) := by
    have hne : h.b ≠ nb := by have := HNB.out; omega
    have : W3.heap[h.b]? = W2.heap[h.b]? := by rw [← hW3]; exact Below.heap_setCell _ _ _ _ hne
    have h2 : W3.cell? ⟨h.b, 2, none⟩ = W2.cell? ⟨h.b, 2, none⟩ := World.cell?_of_block this
    show W3.cell? _ = _
    rw [h2, ← HV.out]
    exact (a1.below hB2).ptr.cell 2
  have g2 : W3.drew.cell? ⟨nb, 2, none⟩ = some (.slice p0 D.writes.length c0) := by rw [← hW3]; exact (hp2.set 1 (.map po2)).drew.cell 2
  have gf2 : W3.drew.frozen? ⟨nb, 2, none⟩ = false := by rw [← hW3]; exact (hp2.set 1 (.map po2)).drew.frozen 2
  have FX : Hid _ := hfin
  clear hfin fin hp2 hB2 hm2 hn2 a1
  go_wp2_with fail
  refine wp_region_qtail 15 mixedP (by kernel_rfl) ?_
  simp only [List.take_succ_cons, List.take_zero, List.drop_succ_cons, List.drop_zero]
  go_big_quiet_step (fail)
  go_big_quiet_step (fail)
  go_big_quiet_step (fail)
  go_big_quiet_step (fail)
  go_big_quiet_step (fail)
  go_big_quiet_step (fail)
  go_big_quiet_step (fail)
  go_big_quiet_step (fail)
  go_big_quiet_step (fail)
  go_big_quiet_step (fail)
  go_big_quiet_step (fail)
  go_big_quiet_step (fail)
  go_big_quiet_step (fail)
  go_big_quiet_step (fail)
  refine wpQ_valC rfl (.slice p0 D.writes.length D.writes.length) (fun W _ => by have := hfr W; go_simp) ?_
  go_frame
  refine wpQuiet_nil ?_
  go_wp2_with fail
  go_ret
  exact ⟨⟨nb, po2, full h.wv, h.fo⟩, rfl, FX.out.1, FX.out.2.1, rfl, rfl, FX.out.2.2⟩
end Go.Proofs.Ytonmjkalkkfhhaa
