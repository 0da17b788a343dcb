/-
  Texts of this claim, put together.
-/
import Derived.Test.YtjklcnknbcmgoaaGreatDoorPA
import Derived.Laws.AppendOwn
import Derived.Laws.EntriesVeiled
import Derived.Laws.ResultCell
/-
  What the calls of numbers, Meta and Slot do.
-/
namespace Go.Proofs.YtjklcnknbcmgoaaGreatDoor.K
open Go Go.RowKit

set_option maxRecDepth 4000 in
theorem slot_any (t : Int) (w : World) (ht : -9223372036854775808 ≤ t ∧ t ≤ 9223372036854775807) :
    Calls Tryz.prog 72 #[.int .i64 t] w fun e w' => e = .returned (.int .i64 (if t ≤ 0 then 0 else t % 2)) ∧ w' = w := by
  by_cases h : t ≤ 0
  · rw [if_pos h]
    go_enter Tryz.func72, Tryz.ntmps72
    go_wp2_with fail
    go_ret
    rw [Int.max_eq_right h]
    exact ⟨rfl, rfl⟩
  · rw [if_neg h]
    have h0 : 0 < t := by omega
    go_enter Tryz.func72, Tryz.ntmps72
    go_wp2_with fail
    go_ret
    rw [Int.max_eq_left (by omega)]
    exact ⟨rfl, rfl⟩
def M4.get (m : M4) (i : Nat) : Nat := if i = 0 then m.tx else if i = 1 then m.root else if i = 2 then m.ents else m.pgs
/-- The bytes of a meta's body. -/
def fN (m : M4) (j : Nat) : UInt8 := UInt8.ofNat (m.get (j / 8) / 256 ^ (7 - j % 8))
def firsts (R : Nat → UInt8) (i : Nat) : List UInt8 := (List.range i).map R
theorem firsts_succ (R : Nat → UInt8) (i : Nat) : octs (firsts R (i + 1)) = octs (firsts R i) ++ [.int .u8 (oct (R i))] := by
  unfold firsts octs
  rw [List.range_succ]
  simp
theorem firsts_body (m : M4) : firsts (fN m) 32 = m.bodyL := by
  unfold M4.bodyL eightL firsts
  rfl
theorem infoU8p : ∃ i, Tryz.prog.info? 5 = some i ∧ i.zero = some (.int .u8 0) ∧ i.size = 1 ∧ i.bytes = 1 := by
  have h : (Tryz.prog.info? 5).map (fun i => (i.zero, i.size, i.bytes)) = some (some (.int .u8 0), 1, 1) := by kernel_rfl
  cases hq : Tryz.prog.info? 5 with
  | none => rw [hq] at h; cases h
  | some i =>
    rw [hq] at h
    simp only [Option.map_some, Option.some.injEq, Prod.mk.injEq] at h
    exact ⟨i, rfl, h.1, h.2.1, h.2.2⟩
theorem one_newsP (w : World) (v : Value) (j : Nat) (u : Value) (h : [v][j]? = some u) : (w.alloc (.cells #[v] 5)).cell? ((⟨w.heap.size, 0, none⟩ : Addr).add j) = some u := by
  have : j = 0 := by
    rcases j with _ | j
    · rfl
    · simp at h
  subst this
  rw [Addr.add_mid, (Holds.new w 5 #[v]).cell]
  exact h
theorem Holds.grownP {w w' : World} {b : Nat} {t : TypeId} {cs : Array Value} {row : Option Nat} (h : Holds w b t cs) (hg : w.grownBy w' row) (hb : some b ≠ row) : Holds w' b t cs := by
  unfold Holds at *
  rw [hg.block b (Array.getElem?_eq_some_iff.1 h).1 hb]
  exact h
theorem M4.get_lt (m : M4) (h : m.small) (i : Nat) : m.get i < 9223372036854775808 := by
  obtain ⟨h1, h2, h3, h4⟩ := h
  unfold M4.get
  split
  · exact h1
  · split
    · exact h2
    · split
      · exact h3
      · exact h4
theorem underBytesP : Tryz.prog.underlying 120 = some (.slice 5) := by kernel_rfl
theorem owned_sliceP {w : World} {base n : Nat} {v : Value} {l : List UInt8} (h : w.ownsRow base 5 1 v n (octs l)) (hn : 0 < n) :
    ∃ g cap, v = .slice (some ⟨g, 0, none⟩) n cap ∧ base ≤ g ∧ g < w.heap.size := by
  rcases h.2 with ⟨_, h0⟩ | ⟨g, cap, cur, e, h1, h2, _⟩
  · omega
  · exact ⟨g, cap, e, h1, (Array.getElem?_eq_some_iff.1 h2).1⟩
theorem byte_fN (m : M4) (i k x : Nat) (hk : k < 8) (hx : x = m.get i) : (x : Int) / 2 ^ (8 * (7 - k)) % 256 = oct (fN m (8 * i + k)) := by
  unfold oct fN
  rw [UInt8.toNat_ofNat', show (8 * i + k) / 8 = i by omega, show (8 * i + k) % 8 = k by omega, ← hx, show (256 : Nat) ^ (7 - k) = 2 ^ (8 * (7 - k)) by rw [Nat.pow_mul]]
  simp
theorem convert_own {w : World} {B g cap n : Nat} {l : List UInt8} (own : w.ownsRow B 5 1 (.slice (some ⟨g, 0, none⟩) n cap) n (octs l)) (hl : l.length = n) :
    (convert 120 9 (.slice (some ⟨g, 0, none⟩) n cap)).run Tryz.prog w = .ok (.string ⟨l.toArray⟩) w := by
  have hcv := run_convert_bytes_back (P := Tryz.prog) w 120 9 5 ⟨g, 0, none⟩ cap l underBytesP (by kernel_rfl) (by kernel_rfl) (fun j hj => by
    have hc := own.cellAt j (by omega)
    rw [octs_get _ j hj] at hc
    rw [add0, hc, List.getD_eq_getElem?_getD, List.getElem?_eq_getElem hj]
    rfl)
  rw [hl] at hcv
  exact hcv
set_option maxRecDepth 4000 in
set_option maxHeartbeats 4000000 in
theorem numbers_any (m : M4) (hm : m.small) (g : Nat) (w : World) (hg : Holds w g 3 #[.int .i64 m.tx, .int .i64 m.root, .int .i64 m.ents, .int .i64 m.pgs]) :
    Calls Tryz.prog 96 #[.slice (some ⟨g, 0, none⟩) 4 4] w fun e w' => e = .returned (.string m.body) ∧ Below w.heap.size w w' := by
  obtain ⟨i8, hi, hiz, his, hib⟩ := infoU8p
  have HI : Hid (Tryz.prog.info? 5 = some i8 ∧ i8.zero = some (.int .u8 0) ∧ i8.size = 1 ∧ i8.bytes = 1) := ⟨hi, hiz, his, hib⟩
  clear hi hiz his hib
  have hmax : (3000 : Nat) + 200 ≤ maxLen := by decide
  obtain ⟨W0, hmk0, own0, gr0⟩ := run_make_own (P := Tryz.prog) w w.heap.size 120 5 i8 (.int .u8 0) 1 underBytesP HI.out.1 HI.out.2.1 HI.out.2.2.1 .i64 .i64 32 (by rw [HI.out.2.2.2]; omega) (by omega) (Nat.le_refl _)
  have hmk : (Instr.makeSlice 120 (.int .i64 0) (.int .i64 32)).run Tryz.prog w = .ok (.slice (some ⟨w.heap.size, 0, none⟩) 0 32) W0 := hmk0
  obtain ⟨v0, hv0⟩ : ∃ v0, v0 = Value.slice (some ⟨w.heap.size, 0, none⟩) 0 32 := ⟨_, rfl⟩
  rw [← hv0] at hmk own0
  have hB0 : Below w.heap.size w W0 := Below.grown (Below.refl _ _) gr0 (Nat.le_refl _) (fun k hk => by cases hk)
  obtain ⟨B, hBB⟩ : ∃ B, B = w.heap.size := ⟨_, rfl⟩
  have hgl := hg.lt
  rw [← hBB] at own0 hgl
  have HB : Hid (B = w.heap.size) := hBB
  have hBs : B ≤ W0.heap.size := by rw [hBB]; exact hB0.size
  have OWN0 : Hid (W0.ownsRow B 5 1 v0 0 (octs (firsts (fN m) 0))) := own0
  have HGL : Hid (g < B) := hgl
  have HS0 : Hid (B ≤ W0.heap.size) := hBs
  have HG0 : Hid (Holds W0 g 3 #[.int .i64 m.tx, .int .i64 m.root, .int .i64 m.ents, .int .i64 m.pgs]) := Below.holds hB0 hg
  have HB0 : Hid (Below w.heap.size w W0) := hB0
  clear hmk0 hv0 gr0 own0 hBB hBs hgl hg hB0
  go_enter Tryz.func96, Tryz.ntmps96
  go_wp2_with fail
  clear hmk
  go_loopw [3, 13] (fun sv zv wr => ∃ (i : Nat) (v : Value), i ≤ 4 ∧ zv = .int .i64 i ∧ sv = v ∧ Below w.heap.size w wr ∧ Holds wr g 3 #[.int .i64 m.tx, .int .i64 m.root, .int .i64 m.ents, .int .i64 m.pgs] ∧ B ≤ wr.heap.size ∧ wr.ownsRow B 5 1 v (8 * i) (octs (firsts (fN m) (8 * i)))) (fun _ zv _ => 4 - (intOf zv).toNat)
  case atStart => exact ⟨0, _, by omega, rfl, rfl, HB0.out, HG0.out, HS0.out, OWN0.out⟩
  case round =>
    clear HB0 HG0 HS0 OWN0
    obtain ⟨i, v, hi, rfl, hv, hB, hh, hs, own⟩ := hrel
    have hv2 := hv.symm
    clear hv
    subst hv2
    by_cases hlt : i < 4
    · have hii : (i : Int) < 4 := by omega
      obtain ⟨x, hx⟩ : ∃ x, x = m.get i := ⟨_, rfl⟩
      have hxl : x < 9223372036854775808 := by rw [hx]; exact m.get_lt hm i
      have HX : Hid (x = m.get i) := hx
      have hc : wr.cell? ⟨g, i, none⟩ = some (.int .i64 (x : Nat)) := by
        rw [hh.cell, hx]
        have : i = 0 ∨ i = 1 ∨ i = 2 ∨ i = 3 := by omega
        rcases this with rfl | rfl | rfl | rfl <;> rfl
      have F : Hid (Below w.heap.size w wr ∧ Holds wr g 3 #[.int .i64 m.tx, .int .i64 m.root, .int .i64 m.ents, .int .i64 m.pgs] ∧ B ≤ wr.heap.size ∧ wr.ownsRow B 5 1 v (8 * i) (octs (firsts (fN m) (8 * i)))) := ⟨hB, hh, hs, own⟩
      clear hx hB hh hs own
      go_wp2_with fail
      clear hc
      go_loopw [3, 17] (fun sv zv wr => ∃ (k : Nat) (v : Value), k ≤ 8 ∧ zv = .int .i64 k ∧ sv = v ∧ Below w.heap.size w wr ∧ Holds wr g 3 #[.int .i64 m.tx, .int .i64 m.root, .int .i64 m.ents, .int .i64 m.pgs] ∧ B ≤ wr.heap.size ∧ wr.ownsRow B 5 1 v (8 * i + k) (octs (firsts (fN m) (8 * i + k)))) (fun _ zv _ => 8 - (intOf zv).toNat)
      case atStart => exact ⟨0, _, by omega, rfl, rfl, F.out.1, F.out.2.1, F.out.2.2.1, F.out.2.2.2⟩
      case round =>
        clear F
        obtain ⟨k, v, hk, rfl, hv, hB, hh, hs, own⟩ := hrel
        have hv2 := hv.symm
        clear hv
        subst hv2
        by_cases hkl : k < 8
        · have hki : (k : Int) < 8 := by omega
          have F : Hid (Below w.heap.size w wr ∧ Holds wr g 3 #[.int .i64 m.tx, .int .i64 m.root, .int .i64 m.ents, .int .i64 m.pgs] ∧ B ≤ wr.heap.size ∧ wr.ownsRow B 5 1 v (8 * i + k) (octs (firsts (fN m) (8 * i + k)))) := ⟨hB, hh, hs, own⟩
          clear hB hh hs own
          go_wp2_with (first
            | (refine wpList_append_own _ rfl _ _ 120 rfl B 5 i8 (.int .u8 0) 1 1 underBytesP HI.out.1 HI.out.2.1 HI.out.2.2.1 HI.out.2.2.2 rfl (by omega) v (8 * i + k) (octs (firsts (fN m) (8 * i + k))) rfl (World.ownsRow.alloc F.out.2.2.2 _) ⟨wr.heap.size, 0, none⟩ 1 1 [.int .u8 ((x : Int) / 2 ^ (8 * (7 - k)) % 256)] rfl rfl (one_newsP wr _) (by intro u hu; simp at hu; subst hu; rfl) (by omega) (by omega) (by rw [World.size_alloc]; have := F.out.2.2.1; omega) ?_
               intro v3 w3 own3 gr3 _
               rw [byte_fN m i k x hkl HX.out, ← firsts_succ] at own3
               have hr : ∀ k, v.ownBlock = some k → B ≤ k := fun k hk => (F.out.2.2.2.lt k hk).1
               have hB3 : Below w.heap.size w w3 := Below.grown (F.out.1.alloc F.out.1.size _) gr3 (Nat.le_trans F.out.1.size (by simp)) (fun k hk => by have := hr k hk; have := HB.out; omega)
               have g3 := Holds.grownP (F.out.2.1.alloc _) gr3 (fun q => by have := hr g q.symm; have := HGL.out; omega)
               have hs3 : B ≤ w3.heap.size := by have := gr3.size; rw [World.size_alloc] at this; have := F.out.2.2.1; omega
               clear gr3 hr)
            | fail)
          have HF : Hid (Below w.heap.size w w3 ∧ Holds w3 g 3 #[.int .i64 m.tx, .int .i64 m.root, .int .i64 m.ents, .int .i64 m.pgs] ∧ B ≤ w3.heap.size ∧ w3.ownsRow B 5 1 v3 (8 * i + k + 1) (octs (firsts (fN m) (8 * i + k + 1)))) := ⟨hB3, g3, hs3, own3⟩
          clear own3 hB3 g3 hs3
          go_roundw
          case rel => exact ⟨k + 1, v3, by omega, rfl, rfl, HF.out.1, HF.out.2.1, HF.out.2.2.1, HF.out.2.2.2⟩
          case measure => simp [intOf]; omega
        · have hki : ¬ (k : Int) < 8 := by omega
          obtain rfl : k = 8 := by omega
          have F : Hid (Below w.heap.size w wr ∧ Holds wr g 3 #[.int .i64 m.tx, .int .i64 m.root, .int .i64 m.ents, .int .i64 m.pgs] ∧ B ≤ wr.heap.size ∧ wr.ownsRow B 5 1 v (8 * (i + 1)) (octs (firsts (fN m) (8 * (i + 1))))) := ⟨hB, hh, hs, own⟩
          clear hB hh hs own
          go_wp2_with fail
          go_roundw
          case rel => exact ⟨i + 1, v, by omega, rfl, rfl, F.out.1, F.out.2.1, F.out.2.2.1, F.out.2.2.2⟩
          case measure => simp [intOf]; omega
    · have hii : ¬ (i : Int) < 4 := by omega
      obtain rfl : i = 4 := by omega
      rw [show 8 * 4 = 32 from rfl, firsts_body] at own
      obtain ⟨q, cap, rfl, hgb, hgl⟩ := owned_sliceP own (by omega)
      have hcv := convert_own own m.bodyL_len
      clear own hh
      go_wp2_with fail
      go_ret
      exact ⟨rfl, hB⟩
theorem run_min4 {P : Program} (w : World) (ts : Array TypeId) (t : TypeId) (x y z u : Int) : (Builtin.min_ ts t #[.int .i64 x, .int .i64 y, .int .i64 z, .int .i64 u]).run P w = .ok (.int .i64 (min (min (min x y) z) u)) w := by
  have e : ∀ a b : Int, (if b < a then b else a) = min a b := fun a b => by
    by_cases h : b < a
    · rw [if_pos h, Int.min_eq_right (by omega)]
    · rw [if_neg h, Int.min_eq_left (by omega)]
  simp [Builtin.min_, Builtin.min2, e]
set_option maxRecDepth 4000 in
set_option maxHeartbeats 1000000 in
theorem meta_no (t r e p : Int) (w : World) (h : t < 0 ∨ r < 0 ∨ e < 0 ∨ p < 0) :
    Calls Tryz.prog 71 #[.agg #[.int .i64 t, .int .i64 r, .int .i64 e, .int .i64 p]] w fun e w' => e = .returned (.tuple #[.string ⟨#[]⟩, .int .i64 1]) ∧ Below w.heap.size w w' := by
  have hmn := fun w => run_min4 (P := Tryz.prog) w #[3, 3, 3, 3] 3 t r e p
  obtain ⟨q, hq⟩ : ∃ q, q = min (min (min t r) e) p := ⟨_, rfl⟩
  rw [← hq] at hmn
  have hq0 : q < 0 := by omega
  clear hq
  go_enter Tryz.func71, Tryz.ntmps71
  go_wp2_with fail
  go_ret2
  exact ⟨rfl, (Below.refl _ _).alloc (Nat.le_refl _) _⟩
set_option maxRecDepth 4000 in
set_option maxHeartbeats 1000000 in
theorem meta_any (m : M4) (hm : m.small) (w : World) (hT : Tabs w) :
    Calls Tryz.prog 71 #[.agg #[.int .i64 m.tx, .int .i64 m.root, .int .i64 m.ents, .int .i64 m.pgs]] w fun e w' => e = .returned (.tuple #[.string (metaS m), .int .i64 0]) ∧ Below w.heap.size w w' := by
  have hmn := fun w => run_min4 (P := Tryz.prog) w #[3, 3, 3, 3] 3 m.tx m.root m.ents m.pgs
  obtain ⟨q, hq⟩ : ∃ q, q = min (min (min (m.tx : Int) m.root) m.ents) m.pgs := ⟨_, rfl⟩
  rw [← hq] at hmn
  have hq0 : 0 ≤ q := by omega
  clear hq
  go_enter Tryz.func71, Tryz.ntmps71
  go_wp2_with fail
  clear hmn
  refine (numbers_any m hm _ _ (by
    have := Holds.new (w.alloc (.cells #[.int .i64 m.tx, .int .i64 m.root, .int .i64 m.ents, .int .i64 m.pgs] 43)) 3 #[.int .i64 m.tx, .int .i64 m.root, .int .i64 m.ents, .int .i64 m.pgs]
    rw [World.size_alloc] at this
    exact this)).mono ?_
  rintro e w2 ⟨rfl, hB2⟩
  have hB : Below w.heap.size w w2 := (((Below.refl _ _).alloc (Nat.le_refl _) _).alloc (by rw [World.size_alloc]; omega) _).trans (hB2.mono (by rw [World.size_alloc, World.size_alloc]; omega))
  clear hB2
  obtain ⟨B, hBB⟩ : ∃ B, B = m.body := ⟨_, rfl⟩
  have hbs : B.size = 32 := by rw [hBB]; exact m.body_size
  rw [← hBB]
  have HBB : Hid (B = m.body) := hBB
  clear hBB
  go_wp2_with fail
  refine (seal_any 77 B _ (hT.below hB) (by omega)).mono ?_
  rintro e w3 ⟨rfl, hB3⟩
  have hB' := hB.trans (hB3.mono hB.size)
  clear hB3 hB
  go_wp2_with fail
  go_ret2
  refine ⟨?_, hB'⟩
  unfold metaS
  rw [← HBB.out]
  rfl
end Go.Proofs.YtjklcnknbcmgoaaGreatDoor.K
/-
  What the calls of ReadMeta and of its closure do.
-/
namespace Go.Proofs.YtjklcnknbcmgoaaGreatDoor.K
open Go Go.RowKit

theorem or_two64 (x y : Nat) (hx : x < 72057594037927936) (hy : y < 256) : bits .or .u64 ((x : Int) * 256) (y : Int) = ((x * 256 + y : Nat) : Int) := by
  have e3 := Nat.two_pow_add_eq_or_of_lt (i := 8) (b := y) (by omega) x
  have e4 : (BitVec.ofInt 64 ((x : Int) * 256)).toNat = 2 ^ 8 * x := by rw [BitVec.toNat_ofInt]; omega
  have e5 : (BitVec.ofInt 64 (y : Int)).toNat = y := by rw [BitVec.toNat_ofInt]; omega
  show IntKind.u64.wrap (((BitVec.ofInt 64 ((x : Int) * 256)) ||| (BitVec.ofInt 64 (y : Int))).toNat : Nat) = _
  rw [BitVec.toNat_or, e4, e5, ← e3, IntKind.wrap_u64]
  omega
theorem extract_get (B : ByteArray) (o i : Nat) (h : o + i < B.size) (h2 : i < (B.extract o B.size).size) : (B.extract o B.size)[i] = B.data.toList.getD (o + i) 0 := by
  rw [getD_get _ i h2, extract_toList, List.getD_eq_getElem?_getD, List.getD_eq_getElem?_getD, List.getElem?_take, List.getElem?_drop, if_pos (by omega)]
set_option maxRecDepth 4000 in
set_option maxHeartbeats 1000000 in
theorem next_any (B : ByteArray) (o a b : Nat) (r : Bool) (w : World) (ho : o + 8 ≤ B.size) (hs : B.size ≤ 2000) (ha : Holds w a 9 #[.string (B.extract o B.size)]) (hb : Holds w b 4 #[.bool r]) :
    Calls Tryz.prog 102 #[.pointer (some ⟨a, 0, none⟩), .pointer (some ⟨b, 0, none⟩)] w fun e w' => e = .returned (.int .i64 (IntKind.i64.wrap (numAt B.data.toList o : Nat))) ∧
      w' = (w.setCell ⟨a, 0, none⟩ (.string (B.extract (o + 8) B.size))).setCell ⟨b, 0, none⟩ (.bool (r && decide (numAt B.data.toList o < 9223372036854775808))) := by
  obtain ⟨S, hS⟩ : ∃ S, S = B.extract o B.size := ⟨_, rfl⟩
  have hSs : S.size = B.size - o := by rw [hS, ByteArray.size_extract]; omega
  have hSe : S.extract 8 S.size = B.extract (o + 8) B.size := by
    apply bytes_ext
    rw [extract_toList, hSs, hS, extract_toList, extract_toList, List.drop_take, List.drop_drop, List.take_take]
    congr 1
    omega
  have HS : Hid (S = B.extract o B.size) := hS
  rw [← hS] at ha
  rw [← hSe]
  have ca : w.cell? ⟨a, 0, none⟩ = some (.string S) := ha.cell 0
  have cb : w.cell? ⟨b, 0, none⟩ = some (.bool r) := hb.cell 0
  have fa : w.frozen? ⟨a, 0, none⟩ = false := ha.frozen 0
  have fb : w.frozen? ⟨b, 0, none⟩ = false := hb.frozen 0
  have hne : a ≠ b := fun q => by
    subst q
    unfold Holds at ha hb
    rw [ha] at hb
    injection hb with hb
    injection hb with hb _
    simp at hb
  have hN := upTo_lt B.data.toList o 8
  have hN' : numAt B.data.toList o < 18446744073709551616 := hN
  clear hS hN
  go_enter Tryz.func102, Tryz.ntmps102
  go_wp2_with fail
  go_loopw [3, 5] (fun nv zv wr => ∃ k : Nat, k ≤ 8 ∧ zv = .int .i64 (k : Nat) ∧ nv = .int .u64 (upTo B.data.toList o k : Nat) ∧ wr = w) (fun _ zv _ => 8 - (intOf zv).toNat)
  case atStart => exact ⟨0, by omega, rfl, rfl, rfl⟩
  case round =>
    obtain ⟨k, hk, rfl, hn, rfl⟩ := hrel
    obtain ⟨x, hx⟩ : ∃ x, x = upTo B.data.toList o k := ⟨_, rfl⟩
    rw [← hx] at hn
    have HX : Hid (x = upTo B.data.toList o k) := hx
    subst hn
    by_cases hlt : k < 8
    · have hki : (k : Int) < 8 := by omega
      have hx2 : x < 72057594037927936 := by
        have h1 := upTo_lt B.data.toList o k
        have h2 : 256 ^ k ≤ 256 ^ 7 := Nat.pow_le_pow_right (by omega) (by omega)
        rw [hx]
        exact Nat.lt_of_lt_of_le h1 h2
      have hkS : k < S.size := by omega
      have hkSi : (k : Int) < S.size := by omega
      have hby : S[k] = B.data.toList.getD (o + k) 0 := by
        have := extract_get B o k (by omega) (by rw [ByteArray.size_extract]; omega)
        have e := HS.out
        subst e
        exact this
      obtain ⟨y, hy⟩ : ∃ y : Nat, y = S[k].toNat := ⟨_, rfl⟩
      have hyl : y < 256 := by rw [hy]; exact S[k].toNat_lt
      have HY : Hid (upTo B.data.toList o (k + 1) = x * 256 + y) := by unfold Hid; rw [upTo, ← hby, hy, hx]
      have hor := or_two64 x y hx2 hyl
      rw [hy] at hor
      have hw1 : IntKind.u64.wrap ((x : Int) * 256) = (x : Int) * 256 := by rw [IntKind.wrap_u64]; omega
      clear hx hby
      go_wp2_with fail
      refine ⟨⟨k + 1, by omega, by go_num, ?_, trivial⟩, by simp [intOf]; omega⟩
      rw [HY.out, hy]
      simp
    · have hki : ¬ (k : Int) < 8 := by omega
      obtain rfl : k = 8 := by omega
      have hxn : Hid (numAt B.data.toList o = x) := HX.out.symm
      have h8 : (8 : Int) ≤ S.size := by omega
      have hx64 : x < 18446744073709551616 := by rw [hx]; exact hN'
      clear hx hSs hN' hSe HX hlt hki hk
      by_cases hm : x < 9223372036854775808
      · have hmi : (x : Int) ≤ 9223372036854775807 := by omega
        have hw : Hid (IntKind.i64.wrap (x : Int) = (x : Int)) := by unfold Hid; rw [IntKind.wrap_i64]; omega
        cases r
        · go_wp2_with fail
          go_ret
          rw [hxn.out, hw.out]
          exact ⟨rfl, rfl⟩
        · go_wp2_with fail
          go_ret
          rw [hxn.out, hw.out]
          refine ⟨rfl, ?_⟩
          rw [decide_eq_true hm]
          try rfl
      · have hmi : ¬ (x : Int) ≤ 9223372036854775807 := by omega
        have hw : Hid (IntKind.i64.wrap (x : Int) = wrap64 (x : Int)) := by unfold Hid; rw [IntKind.wrap_i64]; unfold wrap64; rfl
        cases r
        · go_wp2_with fail
          go_ret
          rw [hxn.out, hw.out]
          exact ⟨rfl, rfl⟩
        · go_wp2_with fail
          go_ret
          rw [hxn.out, hw.out]
          refine ⟨rfl, ?_⟩
          rw [decide_eq_false hm]
          try rfl
def m4A (m : M4) : Array Value := #[.int .i64 m.tx, .int .i64 m.root, .int .i64 m.ents, .int .i64 m.pgs]
def zeroM : M4 := ⟨0, 0, 0, 0⟩
/-- What ReadMeta tells. -/
def readM (p : ByteArray) : Value := .agg (m4A ((readS p).getD zeroM))
def readE (p : ByteArray) : Value := .int .i64 (match readS p with | none => 17 | some _ => 0)
theorem read_no {p : ByteArray} (h : readS p = none) : readM p = .agg #[.int .i64 0, .int .i64 0, .int .i64 0, .int .i64 0] ∧ readE p = .int .i64 17 := by
  unfold readM readE
  rw [h]
  exact ⟨rfl, rfl⟩
theorem read_yes {p : ByteArray} {m : M4} (h : readS p = some m) : readM p = .agg (m4A m) ∧ readE p = .int .i64 0 := by
  unfold readM readE
  rw [h]
  exact ⟨rfl, rfl⟩
theorem results_two {P : Program} {fn : Func} {p u : Tmp} {ty : TypeId} (h : fn.results = #[.cell p ty, .tmp u]) (tmps : Array Value) (w : World) (b : Nat) (t : TypeId) (cs : Array Value) (d : TypeDesc)
    (hp : tmps.getD p undef = .pointer (some ⟨b, 0, none⟩)) (hh : Holds w b t cs)
    (hu : P.underlying ty = some d) (hd : d.isRow = true) (hi : (P.info? ty).map (·.size) = some cs.size) : (results fn tmps).run P w = .ok (.tuple #[.agg cs, tmps.getD u undef]) w := by
  have hr := run_loadVar_row w b t ty cs (0, 0) d hh hu (by cases d <;> simp_all) hi
  rw [results_cell_tmp h, hp]
  simp [asAddr, hr]
theorem infoMeta : (Tryz.prog.info? 43).map (·.size) = some 4 := by kernel_rfl
theorem m4A_one (m : M4) : (m4A m).all (·.oneCell') = true := by simp [m4A, Value.oneCell']
theorem zeroMeta : ∀ w, (zeroValue 43).run Tryz.prog w = .ok (.agg #[.int .i64 0, .int .i64 0, .int .i64 0, .int .i64 0]) w := (zero_of_info (n := 4) (by kernel_rfl)).1
/-- The closure's cells, beside the result's. -/
structure Nx (w0 : World) (g a b : Nat) (B : ByteArray) (o : Nat) (r : Bool) (w : World) : Prop where
  rest : Holds w a 9 #[.string (B.extract o B.size)]
  right : Holds w b 4 #[.bool r]
  res : Holds w g 43 (m4A zeroM)
  below : Below w0.heap.size w0 w
  new : w0.heap.size ≤ a ∧ w0.heap.size ≤ b
  ne : a ≠ b ∧ g ≠ a ∧ g ≠ b
theorem nx_step {w0 : World} {g a b : Nat} {B : ByteArray} {o : Nat} {r : Bool} {w : World} (h : Nx w0 g a b B o r w) (ho : o + 8 ≤ B.size) (hs : B.size ≤ 2000) :
    Calls Tryz.prog 102 #[.pointer (some ⟨a, 0, none⟩), .pointer (some ⟨b, 0, none⟩)] w fun e w' => e = .returned (.int .i64 (IntKind.i64.wrap (numAt B.data.toList o : Nat))) ∧
      Nx w0 g a b B (o + 8) (r && decide (numAt B.data.toList o < 9223372036854775808)) w' ∧ w'.heap.size = w.heap.size := by
  refine (next_any B o a b r w ho hs h.rest h.right).mono ?_
  rintro e w' ⟨rfl, rfl⟩
  obtain ⟨n1, n2⟩ := h.new
  obtain ⟨d1, d2, d3⟩ := h.ne
  refine ⟨rfl, ⟨((h.rest.set 0 _).other ⟨b, 0, none⟩ _ d1), (h.right.other ⟨a, 0, none⟩ _ (fun q => d1 q.symm)).set 0 _, (h.res.other ⟨a, 0, none⟩ _ d2).other ⟨b, 0, none⟩ _ d3, ?_, h.new, h.ne⟩, ?_⟩
  · exact Only.fresh (Only.fresh h.below ((Only.refl a w).set 0 _) n1) ((Only.refl b _).set 0 _) n2
  · rw [World.size_setCell, World.size_setCell]
set_option maxRecDepth 8000 in
set_option maxHeartbeats 4000000 in
theorem read_any (p : ByteArray) (w : World) (hT : Tabs w) (hp : p.size ≤ 9223372036854775807) :
    Calls Tryz.prog 81 #[.string p] w fun e w' => e = .returned (.tuple #[readM p, readE p]) ∧ Below w.heap.size w w' := by
  have hz := zeroMeta
  go_enter Tryz.func81, Tryz.ntmps81
  go_wp2_with fail
  refine (open_any p _ (hT.below ((Below.refl _ _).alloc (Nat.le_refl _) _)) hp).mono ?_
  rintro e w1 ⟨rfl, hB1⟩
  have hB : Below w.heap.size w w1 := ((Below.refl _ _).alloc (Nat.le_refl _) _).trans (hB1.mono (by rw [World.size_alloc]; omega))
  have hr : Holds w1 w.heap.size 43 (m4A zeroM) := Below.holds hB1 (Holds.new w 43 #[.int .i64 0, .int .i64 0, .int .i64 0, .int .i64 0])
  obtain ⟨g, hg⟩ : ∃ g, g = w.heap.size := ⟨_, rfl⟩
  rw [← hg] at hr ⊢
  have HG : Hid (g = w.heap.size) := hg
  have hgl : w.heap.size ≤ g := by omega
  have hgl1 : g < w1.heap.size := hr.lt
  clear hg hB1
  have HB : Hid (Below w.heap.size w w1) := hB
  have HGL : Hid (w.heap.size ≤ g) := hgl
  have HGL1 : Hid (g < w1.heap.size) := hgl1
  clear hB hgl hgl1
  cases ho : openS p with
  | none =>
    obtain ⟨e1, e2, e3⟩ := open_no ho
    obtain ⟨r1, r2⟩ := read_no (readS_none ho)
    rw [e1, e2, e3]
    have R : Hid (readM p = _ ∧ readE p = _) := ⟨r1, r2⟩
    clear e1 e2 e3 r1 r2
    go_wp2_with (first
      | (refine wpList_storeH rfl 43 _ _ rfl g (m4A zeroM) rfl rfl 43 _ (hr.alloc _) infoMeta rfl (m4A_one _) ?_
         intro w3 h3 o3 z3)
      | fail)
    refine bodyPost_ret (results_two (p := 2) (u := 3) rfl _ w3 g 43 _ _ rfl h3 Tryz.underlying43 rfl infoMeta) rfl ⟨?_, ?_⟩
    · rw [R.out.1, R.out.2]; rfl
    · exact Only.fresh (HB.out.alloc HB.out.size _) o3 HGL.out
  | some kb =>
    obtain ⟨k, b⟩ := kb
    obtain ⟨e1, e2, e3⟩ := open_yes ho
    obtain ⟨hb13, -, -⟩ := open_some ho
    rw [e1, e2, e3]
    clear e1 e2 e3
    by_cases hk : k = 77 ∧ b.size = 32
    · obtain ⟨rfl, hb⟩ := hk
      have hbi : (b.size : Int) = 32 := by omega
      rw [show oct 77 = 77 from rfl]
      go_wp2_with fail
      have nx0 : Nx w g w1.heap.size (w1.heap.size + 1) b 0 true ((w1.alloc (.cells #[.string b] 9)).alloc (.cells #[.bool true] 4)) := by
        have h1 := (Holds.new w1 9 #[.string b]).alloc (.cells #[.bool true] 4)
        have h2 := Holds.new (w1.alloc (.cells #[.string b] 9)) 4 #[.bool true]
        rw [World.size_alloc] at h2
        have hsz := HB.out.size
        have hgl := HGL1.out
        refine ⟨?_, h2, (hr.alloc _).alloc _, (HB.out.alloc hsz _).alloc (by rw [World.size_alloc]; omega) _, ⟨hsz, by omega⟩, by omega, by omega, by omega⟩
        have e : b.extract 0 b.size = b := by
          apply bytes_ext
          rw [extract_toList, List.drop_zero, Nat.sub_zero]
          exact List.take_length
        rw [e]
        exact h1
      obtain ⟨a, ha⟩ : ∃ a, a = w1.heap.size := ⟨_, rfl⟩
      rw [← ha] at nx0 ⊢
      clear ha hr
      generalize (w1.alloc (.cells #[.string b] 9)).alloc (.cells #[.bool true] 4) = W0 at nx0 ⊢
      refine (nx_step nx0 (by omega) (by omega)).mono ?_
      rintro e w2 ⟨rfl, nx1, -⟩
      obtain ⟨y0, hy0⟩ : ∃ y, y = IntKind.i64.wrap (numAt b.data.toList 0 : Nat) := ⟨_, rfl⟩
      rw [← hy0]
      have Y0 : Hid (y0 = IntKind.i64.wrap (numAt b.data.toList 0 : Nat)) := hy0
      clear hy0 nx0
      go_wp2_with fail
      refine (nx_step nx1 (by omega) (by omega)).mono ?_
      rintro e w3 ⟨rfl, nx2, -⟩
      obtain ⟨y1, hy1⟩ : ∃ y, y = IntKind.i64.wrap (numAt b.data.toList 8 : Nat) := ⟨_, rfl⟩
      rw [← hy1]
      have Y1 : Hid (y1 = IntKind.i64.wrap (numAt b.data.toList 8 : Nat)) := hy1
      clear hy1 nx1
      go_wp2_with fail
      refine (nx_step nx2 (by omega) (by omega)).mono ?_
      rintro e w4 ⟨rfl, nx3, -⟩
      obtain ⟨y2, hy2⟩ : ∃ y, y = IntKind.i64.wrap (numAt b.data.toList 16 : Nat) := ⟨_, rfl⟩
      rw [← hy2]
      have Y2 : Hid (y2 = IntKind.i64.wrap (numAt b.data.toList 16 : Nat)) := hy2
      clear hy2 nx2
      go_wp2_with fail
      refine (nx_step nx3 (by omega) (by omega)).mono ?_
      rintro e w5 ⟨rfl, nx4, -⟩
      obtain ⟨y3, hy3⟩ : ∃ y, y = IntKind.i64.wrap (numAt b.data.toList 24 : Nat) := ⟨_, rfl⟩
      rw [← hy3]
      have Y3 : Hid (y3 = IntKind.i64.wrap (numAt b.data.toList 24 : Nat)) := hy3
      clear hy3 nx3
      have hN := Holds.new w5 43 #[.int .i64 0, .int .i64 0, .int .i64 0, .int .i64 0]
      have hsm : (m4At b.data.toList).small ↔ (true && decide (numAt b.data.toList 0 < 9223372036854775808) && decide (numAt b.data.toList (0 + 8) < 9223372036854775808) && decide (numAt b.data.toList (0 + 8 + 8) < 9223372036854775808) && decide (numAt b.data.toList (0 + 8 + 8 + 8) < 9223372036854775808)) = true := by
        simp only [Bool.and_eq_true, decide_eq_true_eq]
        unfold m4At M4.small
        dsimp only
        constructor
        · rintro ⟨h1, h2, h3, h4⟩; exact ⟨⟨⟨⟨trivial, h1⟩, h2⟩, h3⟩, h4⟩
        · rintro ⟨⟨⟨⟨_, h1⟩, h2⟩, h3⟩, h4⟩; exact ⟨h1, h2, h3, h4⟩
      obtain ⟨R, hR⟩ : ∃ R, R = (true && decide (numAt b.data.toList 0 < 9223372036854775808) && decide (numAt b.data.toList (0 + 8) < 9223372036854775808) && decide (numAt b.data.toList (0 + 8 + 8) < 9223372036854775808) && decide (numAt b.data.toList (0 + 8 + 8 + 8) < 9223372036854775808)) := ⟨_, rfl⟩
      rw [← hR] at hsm nx4
      clear hR
      have HSM : Hid ((m4At b.data.toList).small ↔ R = true) := hsm
      clear hsm hz
      obtain ⟨q, hq⟩ : ∃ q, q = w5.heap.size := ⟨_, rfl⟩
      have hone : (#[.int .i64 y0, .int .i64 y1, .int .i64 y2, .int .i64 y3] : Array Value).all (·.oneCell') = true := by simp [Value.oneCell']
      have hz := zeroMeta
      have HQ : Hid (q = w5.heap.size) := hq
      have hqa : a + 1 < q := by rw [hq]; exact nx4.right.lt
      have hqg : g < q := by rw [hq]; exact nx4.res.lt
      rw [← hq] at hN
      clear hq
      cases R
      · have hns := readS_no ho fun q => by have := HSM.out.1 q.2.2; cases this
        have RR : Hid (readM p = _ ∧ readE p = _) := read_no hns
        go_wp2_with (first
          | (refine wpList_storeH rfl 43 _ _ rfl w5.heap.size #[.int .i64 y0, .int .i64 y1, .int .i64 y2, .int .i64 y3] rfl rfl 43 #[.int .i64 0, .int .i64 0, .int .i64 0, .int .i64 0] (Holds.new w5 _ _) infoMeta rfl hone ?_
             intro w6 h6 o6 z6
             have hB6 : Below w.heap.size w w6 := Only.fresh (nx4.below.alloc nx4.below.size _) o6 nx4.below.size
             have cR : w6.cell? ⟨a + 1, 0, none⟩ = some (.bool false) := (o6.holds (nx4.right.alloc _) (by have := HQ.out; omega)).cell 0
             have hr6 := o6.holds (nx4.res.alloc (.cells #[.int .i64 0, .int .i64 0, .int .i64 0, .int .i64 0] 43)) (by have := HQ.out; omega))
          | (refine wpList_storeH rfl 43 _ _ rfl g (m4A zeroM) rfl rfl 43 _ hr6 infoMeta rfl (m4A_one _) ?_
             intro w7 h7 o7 z7)
          | fail)
        refine bodyPost_ret (results_two (p := 2) (u := 3) rfl _ w7 g 43 _ _ rfl h7 Tryz.underlying43 rfl infoMeta) rfl ⟨?_, ?_⟩
        · rw [RR.out.1, RR.out.2]; rfl
        · exact Only.fresh hB6 o7 HGL.out
      · have hsm := HSM.out.2 rfl
        have RR : Hid (readM p = _ ∧ readE p = _) := read_yes (readS_of ho rfl hb hsm)
        have e4 : Hid ((#[.int .i64 y0, .int .i64 y1, .int .i64 y2, .int .i64 y3] : Array Value) = m4A (m4At b.data.toList)) := by
          obtain ⟨s1, s2, s3, s4⟩ := hsm
          have wr : ∀ x : Nat, x < 9223372036854775808 → IntKind.i64.wrap (x : Int) = (x : Int) := fun x hx => by rw [IntKind.wrap_i64]; omega
          unfold Hid m4A
          rw [Y0.out, Y1.out, Y2.out, Y3.out, wr (numAt b.data.toList 0) s1, wr (numAt b.data.toList 8) s2, wr (numAt b.data.toList 16) s3, wr (numAt b.data.toList 24) s4]
          rfl
        clear hsm
        go_wp2_with (first
          | (refine wpList_storeH rfl 43 _ _ rfl w5.heap.size #[.int .i64 y0, .int .i64 y1, .int .i64 y2, .int .i64 y3] rfl rfl 43 #[.int .i64 0, .int .i64 0, .int .i64 0, .int .i64 0] (Holds.new w5 _ _) infoMeta rfl hone ?_
             intro w6 h6 o6 z6
             have hB6 : Below w.heap.size w w6 := Only.fresh (nx4.below.alloc nx4.below.size _) o6 nx4.below.size
             have cR : w6.cell? ⟨a + 1, 0, none⟩ = some (.bool true) := (o6.holds (nx4.right.alloc _) (by have := HQ.out; omega)).cell 0
             have hr6 := o6.holds (nx4.res.alloc (.cells #[.int .i64 0, .int .i64 0, .int .i64 0, .int .i64 0] 43)) (by have := HQ.out; omega))
          | (refine wpList_loadG rfl 43 (.tmp 9) rfl w5.heap.size rfl 43 _ _ h6 Tryz.underlying43 rfl infoMeta ?_)
          | (refine wpList_storeH rfl 43 _ _ rfl g #[.int .i64 y0, .int .i64 y1, .int .i64 y2, .int .i64 y3] rfl rfl 43 _ hr6 infoMeta rfl hone ?_
             intro w7 h7 o7 z7)
          | fail)
        refine bodyPost_ret (results_two (p := 2) (u := 3) rfl _ w7 g 43 _ _ rfl h7 Tryz.underlying43 rfl infoMeta) rfl ⟨?_, ?_⟩
        · rw [RR.out.1, RR.out.2, ← e4.out]; rfl
        · exact Only.fresh hB6 o7 HGL.out
    · have R : Hid (readM p = _ ∧ readE p = _) := read_no (readS_no ho fun q => hk ⟨q.1, q.2.1⟩)
      by_cases hk7 : k = 77
      · subst hk7
        have hb : ¬ (b.size : Int) = 32 := fun q => hk ⟨rfl, by omega⟩
        clear hk
        rw [show oct 77 = 77 from rfl]
        go_wp2_with (first
          | (refine wpList_storeH rfl 43 _ _ rfl g (m4A zeroM) rfl rfl 43 _ (hr.alloc _) infoMeta rfl (m4A_one _) ?_
             intro w3 h3 o3 z3)
          | fail)
        refine bodyPost_ret (results_two (p := 2) (u := 3) rfl _ w3 g 43 _ _ rfl h3 Tryz.underlying43 rfl infoMeta) rfl ⟨?_, ?_⟩
        · rw [R.out.1, R.out.2]; rfl
        · exact Only.fresh (HB.out.alloc HB.out.size _) o3 HGL.out
      · have hk7i : ¬ oct k = 77 := fun q => hk7 (oct_inj q)
        clear hk
        go_wp2_with (first
          | (refine wpList_storeH rfl 43 _ _ rfl g (m4A zeroM) rfl rfl 43 _ (hr.alloc _) infoMeta rfl (m4A_one _) ?_
             intro w3 h3 o3 z3)
          | fail)
        refine bodyPost_ret (results_two (p := 2) (u := 3) rfl _ w3 g 43 _ _ rfl h3 Tryz.underlying43 rfl infoMeta) rfl ⟨?_, ?_⟩
        · rw [R.out.1, R.out.2]; rfl
        · exact Only.fresh (HB.out.alloc HB.out.size _) o3 HGL.out
end Go.Proofs.YtjklcnknbcmgoaaGreatDoor.K
