/-
  What the calls of numbers, Meta and Slot do.
-/
import Derived.Test.YtjbenoaefjlbaaaDoorPOpenW
import Derived.Laws.AppendOwn
namespace Go.Proofs.YtjbenoaefjlbaaaDoor
open Go Go.RowKit

set_option maxRecDepth 4000 in
theorem slot_any (t : Int) (w : World) (ht : -9223372036854775808 ≤ t ∧ t ≤ 9223372036854775807) :
    Calls Tryd.prog 19 #[.int .i64 t] w fun e w' => e = .returned (.int .i64 (if t ≤ 0 then 0 else t % 2)) ∧ w' = w := by
  by_cases h : t ≤ 0
  · rw [if_pos h]
    go_enter Tryd.func19, Tryd.ntmps19
    go_wp2_with fail
    go_ret
    rw [Int.max_eq_right h]
    exact ⟨rfl, rfl⟩
  · rw [if_neg h]
    have h0 : 0 < t := by omega
    go_enter Tryd.func19, Tryd.ntmps19
    go_wp2_with fail
    go_ret
    rw [Int.max_eq_left (by omega)]
    exact ⟨rfl, rfl⟩
def M4.get (m : M4) (i : Nat) : Nat := if i = 0 then m.tx else if i = 1 then m.root else if i = 2 then m.ents else m.pgs
/-- The bytes of a meta's body. -/
def fN (m : M4) (j : Nat) : UInt8 := UInt8.ofNat (m.get (j / 8) / 256 ^ (7 - j % 8))
def firsts (R : Nat → UInt8) (i : Nat) : List UInt8 := (List.range i).map R
theorem firsts_succ (R : Nat → UInt8) (i : Nat) : octs (firsts R (i + 1)) = octs (firsts R i) ++ [.int .u8 (oct (R i))] := by
  unfold firsts octs
  rw [List.range_succ]
  simp
theorem firsts_body (m : M4) : firsts (fN m) 32 = m.bodyL := by
  unfold M4.bodyL eightL firsts
  rfl
theorem infoU8p : ∃ i, Tryd.prog.info? 5 = some i ∧ i.zero = some (.int .u8 0) ∧ i.size = 1 ∧ i.bytes = 1 := by
  have h : (Tryd.prog.info? 5).map (fun i => (i.zero, i.size, i.bytes)) = some (some (.int .u8 0), 1, 1) := by kernel_rfl
  cases hq : Tryd.prog.info? 5 with
  | none => rw [hq] at h; cases h
  | some i =>
    rw [hq] at h
    simp only [Option.map_some, Option.some.injEq, Prod.mk.injEq] at h
    exact ⟨i, rfl, h.1, h.2.1, h.2.2⟩
theorem one_newsP (w : World) (v : Value) (j : Nat) (u : Value) (h : [v][j]? = some u) : (w.alloc (.cells #[v] 5)).cell? ((⟨w.heap.size, 0, none⟩ : Addr).add j) = some u := by
  have : j = 0 := by
    rcases j with _ | j
    · rfl
    · simp at h
  subst this
  rw [Addr.add_mid, (Holds.new w 5 #[v]).cell]
  exact h
theorem Holds.grownP {w w' : World} {b : Nat} {t : TypeId} {cs : Array Value} {row : Option Nat} (h : Holds w b t cs) (hg : w.grownBy w' row) (hb : some b ≠ row) : Holds w' b t cs := by
  unfold Holds at *
  rw [hg.block b (Array.getElem?_eq_some_iff.1 h).1 hb]
  exact h
theorem M4.get_lt (m : M4) (h : m.small) (i : Nat) : m.get i < 9223372036854775808 := by
  obtain ⟨h1, h2, h3, h4⟩ := h
  unfold M4.get
  split
  · exact h1
  · split
    · exact h2
    · split
      · exact h3
      · exact h4
theorem underBytesP : Tryd.prog.underlying 42 = some (.slice 5) := by kernel_rfl
theorem owned_sliceP {w : World} {base n : Nat} {v : Value} {l : List UInt8} (h : w.ownsRow base 5 1 v n (octs l)) (hn : 0 < n) :
    ∃ g cap, v = .slice (some ⟨g, 0, none⟩) n cap ∧ base ≤ g ∧ g < w.heap.size := by
  rcases h.2 with ⟨_, h0⟩ | ⟨g, cap, cur, e, h1, h2, _⟩
  · omega
  · exact ⟨g, cap, e, h1, (Array.getElem?_eq_some_iff.1 h2).1⟩
theorem byte_fN (m : M4) (i k x : Nat) (hk : k < 8) (hx : x = m.get i) : (x : Int) / 2 ^ (8 * (7 - k)) % 256 = oct (fN m (8 * i + k)) := by
  unfold oct fN
  rw [UInt8.toNat_ofNat', show (8 * i + k) / 8 = i by omega, show (8 * i + k) % 8 = k by omega, ← hx, show (256 : Nat) ^ (7 - k) = 2 ^ (8 * (7 - k)) by rw [Nat.pow_mul]]
  simp
theorem convert_own {w : World} {B g cap n : Nat} {l : List UInt8} (own : w.ownsRow B 5 1 (.slice (some ⟨g, 0, none⟩) n cap) n (octs l)) (hl : l.length = n) :
    (convert 42 9 (.slice (some ⟨g, 0, none⟩) n cap)).run Tryd.prog w = .ok (.string ⟨l.toArray⟩) w := by
  have hcv := run_convert_bytes_back (P := Tryd.prog) w 42 9 5 ⟨g, 0, none⟩ cap l underBytesP (by kernel_rfl) (by kernel_rfl) (fun j hj => by
    have hc := own.cellAt j (by omega)
    rw [octs_get _ j hj] at hc
    rw [add0, hc, List.getD_eq_getElem?_getD, List.getElem?_eq_getElem hj]
    rfl)
  rw [hl] at hcv
  exact hcv
set_option maxRecDepth 4000 in
set_option maxHeartbeats 4000000 in
theorem numbers_any (m : M4) (hm : m.small) (g : Nat) (w : World) (hg : Holds w g 3 #[.int .i64 m.tx, .int .i64 m.root, .int .i64 m.ents, .int .i64 m.pgs]) :
    Calls Tryd.prog 25 #[.slice (some ⟨g, 0, none⟩) 4 4] w fun e w' => e = .returned (.string m.body) ∧ Below w.heap.size w w' := by
  obtain ⟨i8, hi, hiz, his, hib⟩ := infoU8p
  have HI : Hid (Tryd.prog.info? 5 = some i8 ∧ i8.zero = some (.int .u8 0) ∧ i8.size = 1 ∧ i8.bytes = 1) := ⟨hi, hiz, his, hib⟩
  clear hi hiz his hib
  have hmax : (3000 : Nat) + 200 ≤ maxLen := by decide
  obtain ⟨W0, hmk0, own0, gr0⟩ := run_make_own (P := Tryd.prog) w w.heap.size 42 5 i8 (.int .u8 0) 1 underBytesP HI.out.1 HI.out.2.1 HI.out.2.2.1 .i64 .i64 32 (by rw [HI.out.2.2.2]; omega) (by omega) (Nat.le_refl _)
  have hmk : (Instr.makeSlice 42 (.int .i64 0) (.int .i64 32)).run Tryd.prog w = .ok (.slice (some ⟨w.heap.size, 0, none⟩) 0 32) W0 := hmk0
  obtain ⟨v0, hv0⟩ : ∃ v0, v0 = Value.slice (some ⟨w.heap.size, 0, none⟩) 0 32 := ⟨_, rfl⟩
  rw [← hv0] at hmk own0
  have hB0 : Below w.heap.size w W0 := Below.grown (Below.refl _ _) gr0 (Nat.le_refl _) (fun k hk => by cases hk)
  obtain ⟨B, hBB⟩ : ∃ B, B = w.heap.size := ⟨_, rfl⟩
  have hgl := hg.lt
  rw [← hBB] at own0 hgl
  have HB : Hid (B = w.heap.size) := hBB
  have hBs : B ≤ W0.heap.size := by rw [hBB]; exact hB0.size
  have OWN0 : Hid (W0.ownsRow B 5 1 v0 0 (octs (firsts (fN m) 0))) := own0
  have HGL : Hid (g < B) := hgl
  have HS0 : Hid (B ≤ W0.heap.size) := hBs
  have HG0 : Hid (Holds W0 g 3 #[.int .i64 m.tx, .int .i64 m.root, .int .i64 m.ents, .int .i64 m.pgs]) := Below.holds hB0 hg
  have HB0 : Hid (Below w.heap.size w W0) := hB0
  clear hmk0 hv0 gr0 own0 hBB hBs hgl hg hB0
  go_enter Tryd.func25, Tryd.ntmps25
  go_wp2_with fail
  clear hmk
  go_loopw [3, 13] (fun sv zv wr => ∃ (i : Nat) (v : Value), i ≤ 4 ∧ zv = .int .i64 i ∧ sv = v ∧ Below w.heap.size w wr ∧ Holds wr g 3 #[.int .i64 m.tx, .int .i64 m.root, .int .i64 m.ents, .int .i64 m.pgs] ∧ B ≤ wr.heap.size ∧ wr.ownsRow B 5 1 v (8 * i) (octs (firsts (fN m) (8 * i)))) (fun _ zv _ => 4 - (intOf zv).toNat)
  case atStart => exact ⟨0, _, by omega, rfl, rfl, HB0.out, HG0.out, HS0.out, OWN0.out⟩
  case round =>
    clear HB0 HG0 HS0 OWN0
    obtain ⟨i, v, hi, rfl, hv, hB, hh, hs, own⟩ := hrel
    have hv2 := hv.symm
    clear hv
    subst hv2
    by_cases hlt : i < 4
    · have hii : (i : Int) < 4 := by omega
      obtain ⟨x, hx⟩ : ∃ x, x = m.get i := ⟨_, rfl⟩
      have hxl : x < 9223372036854775808 := by rw [hx]; exact m.get_lt hm i
      have HX : Hid (x = m.get i) := hx
      have hc : wr.cell? ⟨g, i, none⟩ = some (.int .i64 (x : Nat)) := by
        rw [hh.cell, hx]
        have : i = 0 ∨ i = 1 ∨ i = 2 ∨ i = 3 := by omega
        rcases this with rfl | rfl | rfl | rfl <;> rfl
      have F : Hid (Below w.heap.size w wr ∧ Holds wr g 3 #[.int .i64 m.tx, .int .i64 m.root, .int .i64 m.ents, .int .i64 m.pgs] ∧ B ≤ wr.heap.size ∧ wr.ownsRow B 5 1 v (8 * i) (octs (firsts (fN m) (8 * i)))) := ⟨hB, hh, hs, own⟩
      clear hx hB hh hs own
      go_wp2_with fail
      clear hc
      go_loopw [3, 17] (fun sv zv wr => ∃ (k : Nat) (v : Value), k ≤ 8 ∧ zv = .int .i64 k ∧ sv = v ∧ Below w.heap.size w wr ∧ Holds wr g 3 #[.int .i64 m.tx, .int .i64 m.root, .int .i64 m.ents, .int .i64 m.pgs] ∧ B ≤ wr.heap.size ∧ wr.ownsRow B 5 1 v (8 * i + k) (octs (firsts (fN m) (8 * i + k)))) (fun _ zv _ => 8 - (intOf zv).toNat)
      case atStart => exact ⟨0, _, by omega, rfl, rfl, F.out.1, F.out.2.1, F.out.2.2.1, F.out.2.2.2⟩
      case round =>
        clear F
        obtain ⟨k, v, hk, rfl, hv, hB, hh, hs, own⟩ := hrel
        have hv2 := hv.symm
        clear hv
        subst hv2
        by_cases hkl : k < 8
        · have hki : (k : Int) < 8 := by omega
          have F : Hid (Below w.heap.size w wr ∧ Holds wr g 3 #[.int .i64 m.tx, .int .i64 m.root, .int .i64 m.ents, .int .i64 m.pgs] ∧ B ≤ wr.heap.size ∧ wr.ownsRow B 5 1 v (8 * i + k) (octs (firsts (fN m) (8 * i + k)))) := ⟨hB, hh, hs, own⟩
          clear hB hh hs own
          go_wp2_with (first
            | (refine wpList_append_own _ rfl _ _ 42 rfl B 5 i8 (.int .u8 0) 1 1 underBytesP HI.out.1 HI.out.2.1 HI.out.2.2.1 HI.out.2.2.2 rfl (by omega) v (8 * i + k) (octs (firsts (fN m) (8 * i + k))) rfl (World.ownsRow.alloc F.out.2.2.2 _) ⟨wr.heap.size, 0, none⟩ 1 1 [.int .u8 ((x : Int) / 2 ^ (8 * (7 - k)) % 256)] rfl rfl (one_newsP wr _) (by intro u hu; simp at hu; subst hu; rfl) (by omega) (by omega) (by rw [World.size_alloc]; have := F.out.2.2.1; omega) ?_
               intro v3 w3 own3 gr3 _
               rw [byte_fN m i k x hkl HX.out, ← firsts_succ] at own3
               have hr : ∀ k, v.ownBlock = some k → B ≤ k := fun k hk => (F.out.2.2.2.lt k hk).1
               have hB3 : Below w.heap.size w w3 := Below.grown (F.out.1.alloc F.out.1.size _) gr3 (Nat.le_trans F.out.1.size (by simp)) (fun k hk => by have := hr k hk; have := HB.out; omega)
               have g3 := Holds.grownP (F.out.2.1.alloc _) gr3 (fun q => by have := hr g q.symm; have := HGL.out; omega)
               have hs3 : B ≤ w3.heap.size := by have := gr3.size; rw [World.size_alloc] at this; have := F.out.2.2.1; omega
               clear gr3 hr)
            | fail)
          have HF : Hid (Below w.heap.size w w3 ∧ Holds w3 g 3 #[.int .i64 m.tx, .int .i64 m.root, .int .i64 m.ents, .int .i64 m.pgs] ∧ B ≤ w3.heap.size ∧ w3.ownsRow B 5 1 v3 (8 * i + k + 1) (octs (firsts (fN m) (8 * i + k + 1)))) := ⟨hB3, g3, hs3, own3⟩
          clear own3 hB3 g3 hs3
          go_roundw
          case rel => exact ⟨k + 1, v3, by omega, rfl, rfl, HF.out.1, HF.out.2.1, HF.out.2.2.1, HF.out.2.2.2⟩
          case measure => simp [intOf]; omega
        · have hki : ¬ (k : Int) < 8 := by omega
          obtain rfl : k = 8 := by omega
          have F : Hid (Below w.heap.size w wr ∧ Holds wr g 3 #[.int .i64 m.tx, .int .i64 m.root, .int .i64 m.ents, .int .i64 m.pgs] ∧ B ≤ wr.heap.size ∧ wr.ownsRow B 5 1 v (8 * (i + 1)) (octs (firsts (fN m) (8 * (i + 1))))) := ⟨hB, hh, hs, own⟩
          clear hB hh hs own
          go_wp2_with fail
          go_roundw
          case rel => exact ⟨i + 1, v, by omega, rfl, rfl, F.out.1, F.out.2.1, F.out.2.2.1, F.out.2.2.2⟩
          case measure => simp [intOf]; omega
    · have hii : ¬ (i : Int) < 4 := by omega
      obtain rfl : i = 4 := by omega
      rw [show 8 * 4 = 32 from rfl, firsts_body] at own
      obtain ⟨q, cap, rfl, hgb, hgl⟩ := owned_sliceP own (by omega)
      have hcv := convert_own own m.bodyL_len
      clear own hh
      go_wp2_with fail
      go_ret
      exact ⟨rfl, hB⟩
theorem run_min4 {P : Program} (w : World) (ts : Array TypeId) (t : TypeId) (x y z u : Int) : (Builtin.min_ ts t #[.int .i64 x, .int .i64 y, .int .i64 z, .int .i64 u]).run P w = .ok (.int .i64 (min (min (min x y) z) u)) w := by
  have e : ∀ a b : Int, (if b < a then b else a) = min a b := fun a b => by
    by_cases h : b < a
    · rw [if_pos h, Int.min_eq_right (by omega)]
    · rw [if_neg h, Int.min_eq_left (by omega)]
  simp [Builtin.min_, Builtin.min2, e]
set_option maxRecDepth 4000 in
set_option maxHeartbeats 1000000 in
theorem meta_no (t r e p : Int) (w : World) (h : t < 0 ∨ r < 0 ∨ e < 0 ∨ p < 0) :
    Calls Tryd.prog 13 #[.agg #[.int .i64 t, .int .i64 r, .int .i64 e, .int .i64 p]] w fun e w' => e = .returned (.tuple #[.string ⟨#[]⟩, .int .i64 1]) ∧ Below w.heap.size w w' := by
  have hmn := fun w => run_min4 (P := Tryd.prog) w #[3, 3, 3, 3] 3 t r e p
  obtain ⟨q, hq⟩ : ∃ q, q = min (min (min t r) e) p := ⟨_, rfl⟩
  rw [← hq] at hmn
  have hq0 : q < 0 := by omega
  clear hq
  go_enter Tryd.func13, Tryd.ntmps13
  go_wp2_with fail
  go_ret2
  exact ⟨rfl, (Below.refl _ _).alloc (Nat.le_refl _) _⟩
set_option maxRecDepth 4000 in
set_option maxHeartbeats 1000000 in
theorem meta_any (m : M4) (hm : m.small) (w : World) (hT : Tabs w) :
    Calls Tryd.prog 13 #[.agg #[.int .i64 m.tx, .int .i64 m.root, .int .i64 m.ents, .int .i64 m.pgs]] w fun e w' => e = .returned (.tuple #[.string (metaS m), .int .i64 0]) ∧ Below w.heap.size w w' := by
  have hmn := fun w => run_min4 (P := Tryd.prog) w #[3, 3, 3, 3] 3 m.tx m.root m.ents m.pgs
  obtain ⟨q, hq⟩ : ∃ q, q = min (min (min (m.tx : Int) m.root) m.ents) m.pgs := ⟨_, rfl⟩
  rw [← hq] at hmn
  have hq0 : 0 ≤ q := by omega
  clear hq
  go_enter Tryd.func13, Tryd.ntmps13
  go_wp2_with fail
  clear hmn
  refine (numbers_any m hm _ _ (by
    have := Holds.new (w.alloc (.cells #[.int .i64 m.tx, .int .i64 m.root, .int .i64 m.ents, .int .i64 m.pgs] 30)) 3 #[.int .i64 m.tx, .int .i64 m.root, .int .i64 m.ents, .int .i64 m.pgs]
    rw [World.size_alloc] at this
    exact this)).mono ?_
  rintro e w2 ⟨rfl, hB2⟩
  have hB : Below w.heap.size w w2 := (((Below.refl _ _).alloc (Nat.le_refl _) _).alloc (by rw [World.size_alloc]; omega) _).trans (hB2.mono (by rw [World.size_alloc, World.size_alloc]; omega))
  clear hB2
  obtain ⟨B, hBB⟩ : ∃ B, B = m.body := ⟨_, rfl⟩
  have hbs : B.size = 32 := by rw [hBB]; exact m.body_size
  rw [← hBB]
  have HBB : Hid (B = m.body) := hBB
  clear hBB
  go_wp2_with fail
  refine (seal_any 77 B _ (hT.below hB) (by omega)).mono ?_
  rintro e w3 ⟨rfl, hB3⟩
  have hB' := hB.trans (hB3.mono hB.size)
  clear hB3 hB
  go_wp2_with fail
  go_ret2
  refine ⟨?_, hB'⟩
  unfold metaS
  rw [← HBB.out]
  rfl
end Go.Proofs.YtjbenoaefjlbaaaDoor
