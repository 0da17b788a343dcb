/-
  What the document's calls of eight and Meta do.
-/
import Derived.Test.YtjbenoaefjlbaaaDoorPMetaW
import Derived.Test.YtjbenoaefjlbaaaDoorPQOpenW
namespace Go.Proofs.YtjbenoaefjlbaaaDoor
open Go Go.RowKit

def eF (n : Nat) (j : Nat) : UInt8 := UInt8.ofNat (n / 256 ^ (7 - j))
theorem firsts_eight (n : Nat) : firsts (eF n) 8 = eightL n := rfl
def eightS (n : Nat) : ByteArray := ⟨(eightL n).toArray⟩
theorem eightS_size (n : Nat) : (eightS n).size = 8 := eightL_len n
theorem byte_eF (n k s : Nat) (hk : k < 8) (hs : s = 56 - 8 * k) : (n : Int) / 2 ^ s % 256 = oct (eF n k) := by
  unfold oct eF
  rw [UInt8.toNat_ofNat', show (256 : Nat) ^ (7 - k) = 2 ^ (8 * (7 - k)) by rw [Nat.pow_mul], show 8 * (7 - k) = s by omega]
  simp
set_option maxRecDepth 4000 in
set_option maxHeartbeats 4000000 in
theorem qeight_any (n : Nat) (hn : n < 9223372036854775808) (w : World) :
    Calls Tryd.prog 26 #[.int .i64 (n : Nat)] w fun e w' => e = .returned (.string (eightS n)) ∧ Below w.heap.size w w' := by
  obtain ⟨i8, hi, hiz, his, hib⟩ := infoU8p
  have HI : Hid (Tryd.prog.info? 5 = some i8 ∧ i8.zero = some (.int .u8 0) ∧ i8.size = 1 ∧ i8.bytes = 1) := ⟨hi, hiz, his, hib⟩
  clear hi hiz his hib
  have hmax : (3000 : Nat) + 200 ≤ maxLen := by decide
  have hni : (n : Int) ≤ 9223372036854775807 := by omega
  obtain ⟨B, hBB⟩ : ∃ B, B = w.heap.size := ⟨_, rfl⟩
  have HB : Hid (B = w.heap.size) := hBB
  clear hBB
  go_enter Tryd.func26, Tryd.ntmps26
  go_wp2_with fail
  go_loopw [3, 4] (fun sv zv wr => ∃ (k : Nat) (v : Value), k ≤ 8 ∧ zv = .int .i64 (56 - 8 * (k : Int)) ∧ sv = v ∧ Below w.heap.size w wr ∧ B ≤ wr.heap.size ∧ wr.ownsRow B 5 1 v k (octs (firsts (eF n) k))) (fun _ zv _ => (intOf zv + 8).toNat)
  case atStart => exact ⟨0, _, by omega, rfl, rfl, Below.refl _ _, by rw [HB.out]; exact Nat.le_refl _, World.ownsRow_nil _ _ _ _⟩
  case round =>
    obtain ⟨k, v, hk, rfl, hv, hB, hs, own⟩ := hrel
    have hv2 := hv.symm
    clear hv
    subst hv2
    by_cases hkl : k < 8
    · obtain ⟨s, hss⟩ : ∃ s : Nat, s = 56 - 8 * k := ⟨_, rfl⟩
      rw [show (56 : Int) - 8 * (k : Int) = (s : Nat) by omega]
      have hsi : (s : Int) ≤ 56 := by omega
      have HS : Hid (s = 56 - 8 * k) := hss
      clear hss
      have F : Hid (Below w.heap.size w wr ∧ B ≤ wr.heap.size ∧ wr.ownsRow B 5 1 v k (octs (firsts (eF n) k))) := ⟨hB, hs, own⟩
      clear hB hs own
      go_wp2_with (first
        | (refine wpList_append_own _ rfl _ _ 42 rfl B 5 i8 (.int .u8 0) 1 1 underBytesP HI.out.1 HI.out.2.1 HI.out.2.2.1 HI.out.2.2.2 rfl (by omega) v k (octs (firsts (eF n) k)) rfl (World.ownsRow.alloc F.out.2.2 _) ⟨wr.heap.size, 0, none⟩ 1 1 [.int .u8 ((n : Int) / 2 ^ s % 256)] rfl rfl (one_newsP wr _) (by intro u hu; simp at hu; subst hu; rfl) (by omega) (by omega) (by rw [World.size_alloc]; have := F.out.2.1; omega) ?_
           intro v3 w3 own3 gr3 _
           rw [byte_eF n k s hkl HS.out, ← firsts_succ] at own3
           have hr : ∀ k, v.ownBlock = some k → B ≤ k := fun k hk => (F.out.2.2.lt k hk).1
           have hB3 : Below w.heap.size w w3 := Below.grown (F.out.1.alloc F.out.1.size _) gr3 (Nat.le_trans F.out.1.size (by simp)) (fun k hk => by have := hr k hk; have := HB.out; omega)
           have hs3 : B ≤ w3.heap.size := by have := gr3.size; rw [World.size_alloc] at this; have := F.out.2.1; omega
           clear gr3 hr)
        | fail)
      have HF : Hid (Below w.heap.size w w3 ∧ B ≤ w3.heap.size ∧ w3.ownsRow B 5 1 v3 (k + 1) (octs (firsts (eF n) (k + 1)))) := ⟨hB3, hs3, own3⟩
      clear own3 hB3 hs3
      go_roundw
      case rel => exact ⟨k + 1, v3, by omega, by have := HS.out; congr 1; omega, rfl, HF.out.1, HF.out.2.1, HF.out.2.2⟩
      case measure => simp [intOf]; have := HS.out; omega
    · obtain rfl : k = 8 := by omega
      rw [firsts_eight] at own
      obtain ⟨q, cap, rfl, hgb, hgl⟩ := owned_sliceP own (by omega)
      have hcv := convert_own own (eightL_len n)
      rw [show (56 : Int) - 8 * ((8 : Nat) : Int) = -8 by omega]
      clear own
      go_wp2_with fail
      go_ret
      exact ⟨rfl, hB⟩
set_option maxRecDepth 4000 in
set_option maxHeartbeats 4000000 in
theorem qmeta_no (t r e p : Int) (w : World) (h : t < 0 ∨ r < 0 ∨ e < 0 ∨ p < 0) :
    Calls Tryd.prog 14 #[.agg #[.int .i64 t, .int .i64 r, .int .i64 e, .int .i64 p]] w fun e w' => e = .returned (.tuple #[.string ⟨#[]⟩, .int .i64 1]) ∧ Below w.heap.size w w' := by
  by_cases h1 : t < 0
  · go_enter Tryd.func14, Tryd.ntmps14
    go_wp2_with fail
    go_ret2
    exact ⟨rfl, (Below.refl _ _).alloc (Nat.le_refl _) _⟩
  · by_cases h2 : r < 0
    · go_enter Tryd.func14, Tryd.ntmps14
      go_wp2_with fail
      go_ret2
      exact ⟨rfl, (Below.refl _ _).alloc (Nat.le_refl _) _⟩
    · by_cases h3 : e < 0
      · go_enter Tryd.func14, Tryd.ntmps14
        go_wp2_with fail
        go_ret2
        exact ⟨rfl, (Below.refl _ _).alloc (Nat.le_refl _) _⟩
      · have h4 : p < 0 := by omega
        clear h
        go_enter Tryd.func14, Tryd.ntmps14
        go_wp2_with fail
        go_ret2
        exact ⟨rfl, (Below.refl _ _).alloc (Nat.le_refl _) _⟩
set_option maxRecDepth 8000 in
set_option maxHeartbeats 4000000 in
theorem qmeta_any (m : M4) (hm : m.small) (w : World) :
    Calls Tryd.prog 14 #[.agg #[.int .i64 m.tx, .int .i64 m.root, .int .i64 m.ents, .int .i64 m.pgs]] w fun e w' => e = .returned (.tuple #[.string (metaS m), .int .i64 0]) ∧ Below w.heap.size w w' := by
  have hN := Holds.new w 30 #[.int .i64 m.tx, .int .i64 m.root, .int .i64 m.ents, .int .i64 m.pgs]
  have hB2 := (Below.refl w.heap.size w).alloc (Nat.le_refl _) (.cells #[.int .i64 m.tx, .int .i64 m.root, .int .i64 m.ents, .int .i64 m.pgs] 30)
  obtain ⟨g, hg⟩ : ∃ g, g = w.heap.size := ⟨_, rfl⟩
  rw [← hg] at hN
  have HG : Hid (g = w.heap.size) := hg
  clear hg
  have z0 : (0 : Int) ≤ m.tx := by omega
  have z1 : (0 : Int) ≤ m.root := by omega
  have z2 : (0 : Int) ≤ m.ents := by omega
  have z3 : (0 : Int) ≤ m.pgs := by omega
  go_enter Tryd.func14, Tryd.ntmps14
  go_wp2_with fail
  rw [← HG.out]
  generalize w.alloc (.cells #[.int .i64 m.tx, .int .i64 m.root, .int .i64 m.ents, .int .i64 m.pgs] 30) = w1 at hN hB2 ⊢
  clear z0 z1 z2 z3
  have hcl : ∀ W, Below w1.heap.size w1 W → W.cell? ⟨g, 0, none⟩ = some (.int .i64 m.tx) ∧ W.cell? ⟨g, 1, none⟩ = some (.int .i64 m.root) ∧ W.cell? ⟨g, 2, none⟩ = some (.int .i64 m.ents) ∧ W.cell? ⟨g, 3, none⟩ = some (.int .i64 m.pgs) := fun W hW =>
    ⟨(Below.holds hW hN).cell 0, (Below.holds hW hN).cell 1, (Below.holds hW hN).cell 2, (Below.holds hW hN).cell 3⟩
  refine wp_region_plan (fun W => Below w1.heap.size w1 W) [.take 0, .take 1, .take 3, .take 4, .take 7, .take 8, .take 11, .take 12, .one 2, .one 5, .take 6, .one 9, .take 10, .one 13, .take 14, .one 15, .take 16, .take 17, .one 18, .one 19] mixedP (by kernel_rfl) rfl (by kernel_rfl) (fun _ _ _ d _ h => by cases d <;> exact h) (Below.refl _ _).drew ?_
  have hBw := hB2
  clear hB2
  have hB2 : Below w1.heap.size w1 w1.drew := (Below.refl _ _).drew
  refine plan_val (some 22) rfl rfl rfl (.pointer (some ⟨g, 0, none⟩)) (fun _ => by go_simp) ?_
  go_frame
  refine plan_ldI (some 23) rfl rfl rfl _ rfl rfl (v := .int .i64 m.tx) (fun W hW => (hcl W hW).1) ?_
  go_frame
  refine plan_val (some 25) rfl rfl rfl (.pointer (some ⟨g, 1, none⟩)) (fun _ => by go_simp) ?_
  go_frame
  refine plan_ldI (some 26) rfl rfl rfl _ rfl rfl (v := .int .i64 m.root) (fun W hW => (hcl W hW).2.1) ?_
  go_frame
  refine plan_val (some 29) rfl rfl rfl (.pointer (some ⟨g, 2, none⟩)) (fun _ => by go_simp) ?_
  go_frame
  refine plan_ldI (some 30) rfl rfl rfl _ rfl rfl (v := .int .i64 m.ents) (fun W hW => (hcl W hW).2.2.1) ?_
  go_frame
  refine plan_val (some 33) rfl rfl rfl (.pointer (some ⟨g, 3, none⟩)) (fun _ => by go_simp) ?_
  go_frame
  refine plan_ldI (some 34) rfl rfl rfl _ rfl rfl (v := .int .i64 m.pgs) (fun W hW => (hcl W hW).2.2.2) ?_
  go_frame
  refine plan_call (some 24) rfl rfl rfl (f := 26) (vs := #[.int .i64 m.tx]) (by go_simp) ?_
  refine (qeight_any m.tx hm.1 _).mono ?_
  rintro e w3 ⟨rfl, hB3'⟩
  have hB3 := hB2.trans (hB3'.mono hB2.size)
  refine ⟨_, rfl, hB3, ?_⟩
  go_frame
  clear hB2 hB3'
  refine plan_call (some 27) rfl rfl rfl (f := 26) (vs := #[.int .i64 m.root]) (by go_simp) ?_
  refine (qeight_any m.root hm.2.1 _).mono ?_
  rintro e w4 ⟨rfl, hB4'⟩
  have hB4 := hB3.trans (hB4'.mono hB3.size)
  refine ⟨_, rfl, hB4, ?_⟩
  go_frame
  clear hB3 hB4'
  obtain ⟨x0, hx0⟩ : ∃ x, x = eightS m.tx := ⟨_, rfl⟩
  obtain ⟨x1, hx1⟩ : ∃ x, x = eightS m.root := ⟨_, rfl⟩
  obtain ⟨x2, hx2⟩ : ∃ x, x = eightS m.ents := ⟨_, rfl⟩
  obtain ⟨x3, hx3⟩ : ∃ x, x = eightS m.pgs := ⟨_, rfl⟩
  have i0 : (x0.size : Int) = 8 := by rw [hx0, eightS_size]; rfl
  have i1 : (x1.size : Int) = 8 := by rw [hx1, eightS_size]; rfl
  have i2 : (x2.size : Int) = 8 := by rw [hx2, eightS_size]; rfl
  have i3 : (x3.size : Int) = 8 := by rw [hx3, eightS_size]; rfl
  rw [← hx0, ← hx1]
  have X0 : Hid (x0 = eightS m.tx ∧ x1 = eightS m.root ∧ x2 = eightS m.ents ∧ x3 = eightS m.pgs) := ⟨hx0, hx1, hx2, hx3⟩
  have j1 : ((x0 ++ x1).size : Int) = 16 := by rw [ByteArray.size_append]; omega
  have j2 : ((x0 ++ x1 ++ x2).size : Int) = 24 := by rw [ByteArray.size_append]; omega
  have j3 : (x0 ++ x1 ++ x2 ++ x3).size = 32 := by rw [ByteArray.size_append]; omega
  clear hx0 hx1 hx2 hx3
  refine plan_val (some 28) rfl rfl rfl (.string (x0 ++ x1)) (fun _ => by go_simp; omega) ?_
  go_frame
  refine plan_call (some 31) rfl rfl rfl (f := 26) (vs := #[.int .i64 m.ents]) (by go_simp) ?_
  refine (qeight_any m.ents hm.2.2.1 _).mono ?_
  rintro e w5 ⟨rfl, hB5'⟩
  have hB5 := hB4.trans (hB5'.mono hB4.size)
  refine ⟨_, rfl, hB5, ?_⟩
  go_frame
  clear hB4 hB5'
  rw [← X0.out.2.2.1]
  refine plan_val (some 32) rfl rfl rfl (.string (x0 ++ x1 ++ x2)) (fun _ => by go_simp; omega) ?_
  go_frame
  refine plan_call (some 35) rfl rfl rfl (f := 26) (vs := #[.int .i64 m.pgs]) (by go_simp) ?_
  refine (qeight_any m.pgs hm.2.2.2 _).mono ?_
  rintro e w6 ⟨rfl, hB6'⟩
  have hB6 := hB5.trans (hB6'.mono hB5.size)
  refine ⟨_, rfl, hB6, ?_⟩
  go_frame
  clear hB5 hB6'
  rw [← X0.out.2.2.2]
  refine plan_val (some 36) rfl rfl rfl (.string (x0 ++ x1 ++ x2 ++ x3)) (fun _ => by go_simp; omega) ?_
  go_frame
  refine plan_call (some 37) rfl rfl rfl (f := 10) (vs := #[.int .u8 77, .string (x0 ++ x1 ++ x2 ++ x3)]) (by go_simp) ?_
  refine (qseal_any 77 _ _ (by omega)).mono ?_
  rintro e w7 ⟨rfl, hB7'⟩
  have hB7 := hB6.trans (hB7'.mono hB6.size)
  refine ⟨_, rfl, hB7, ?_⟩
  go_frame
  have hf : sealS 77 (x0 ++ x1 ++ x2 ++ x3) = metaS m := by
    unfold metaS
    congr 1
    apply bytes_ext
    rw [append_toList, append_toList, append_toList, X0.out.1, X0.out.2.1, X0.out.2.2.1, X0.out.2.2.2]
    rfl
  rw [hf]
  clear hf
  obtain ⟨S, hS⟩ : ∃ S, S = metaS m := ⟨_, rfl⟩
  rw [← hS]
  have HS : Hid (S = metaS m) := hS
  clear hS
  refine plan_val (some 38) rfl rfl rfl (.string S) (fun _ => by go_simp) ?_
  go_frame
  refine plan_val (some 39) rfl rfl rfl (.int .i64 0) (fun _ => by go_simp) ?_
  go_frame
  refine plan_one (some 2) rfl rfl rfl (v := .string S) (by go_simp) hB7 ?_
  go_frame
  refine plan_one (some 3) rfl rfl rfl (v := .int .i64 0) (by go_simp) hB7 ?_
  go_frame
  refine then_normal ?_
  go_at_K
  go_wp2_with fail
  go_ret2
  rw [← HS.out]
  exact ⟨rfl, hBw.trans (hB7.mono hBw.size)⟩
end Go.Proofs.YtjbenoaefjlbaaaDoor
