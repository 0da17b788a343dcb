/-
  The program's closures take and number.
-/
import Derived.Test.YtdgfjaidnedaiaaEParseP
namespace Go.Proofs.Ytdgfjaidnedaiaa
open Go Go.RowKit Go.Lib

theorem txt_size (l : List UInt8) : (txt l).size = l.length := by unfold txt; simp [ByteArray.size]
theorem txt_extract (l : List UInt8) (i j : Nat) : (txt l).extract i j = txt ((l.drop i).take (j - i)) := by
  apply ByteArray.ext
  apply Array.toList_inj.mp
  unfold txt
  simp
theorem slTo (l : List UInt8) (n : Nat) (h : n ≤ l.length) (w : World) : (Instr.sliceAt 9 (.string (txt l)) none (some (.int .i64 (n : Int))) none).run Try.prog w = .ok (.string (txt (l.take n))) w := by
  have h1 : (n : Int) ≤ (txt l).size := by rw [txt_size]; omega
  have h2 := txt_extract l 0 n
  simp only [List.drop_zero, Nat.sub_zero] at h2
  rw [← h2]
  go_simp
theorem slFrom (l : List UInt8) (n : Nat) (h : n ≤ l.length) (w : World) : (Instr.sliceAt 9 (.string (txt l)) (some (.int .i64 (n : Int))) none none).run Try.prog w = .ok (.string (txt (l.drop n))) w := by
  have h1 : (n : Int) ≤ (txt l).size := by rw [txt_size]; omega
  have h2 := txt_extract l n (txt l).size
  rw [txt_size, List.take_of_length_le (by rw [List.length_drop]; exact Nat.le_refl _)] at h2
  rw [← h2]
  have h3 : (txt l).size = l.length := txt_size l
  rw [← h3]
  go_simp
/-- All but two blocks stay. -/
structure Two (a b : Nat) (w w' : World) : Prop where
  os : w'.os = w.os
  tape : w'.tape = w.tape
  output : w'.output = w.output
  size : w'.heap.size = w.heap.size
  block : ∀ k, k ≠ a → k ≠ b → w'.heap[k]? = w.heap[k]?
theorem Two.refl (a b : Nat) (w : World) : Two a b w w := ⟨rfl, rfl, rfl, rfl, fun _ _ _ => rfl⟩
theorem Two.trans {a b : Nat} {w w' w'' : World} (h : Two a b w w') (h' : Two a b w' w'') : Two a b w w'' :=
  ⟨h'.os.trans h.os, h'.tape.trans h.tape, h'.output.trans h.output, h'.size.trans h.size, fun k h1 h2 => (h'.block k h1 h2).trans (h.block k h1 h2)⟩
theorem Two.holds {a b g : Nat} {w w' : World} {t : TypeId} {cs : Array Value} (h : Two a b w w') (hh : Holds w g t cs) (h1 : g ≠ a) (h2 : g ≠ b) : Holds w' g t cs := by
  unfold Holds at *
  rw [h.block g h1 h2]; exact hh
theorem two_left {a b : Nat} (w : World) (i : Nat) (v : Value) : Two a b w (w.setCell ⟨a, i, none⟩ v) := ⟨rfl, rfl, rfl, by simp, fun k h1 _ => Below.heap_setCell _ _ _ _ h1⟩
theorem two_right {a b : Nat} (w : World) (i : Nat) (v : Value) : Two a b w (w.setCell ⟨b, i, none⟩ v) := ⟨rfl, rfl, rfl, by simp, fun k _ h2 => Below.heap_setCell _ _ _ _ h2⟩
/-- The boxes of what is left and whether there was enough. -/
def Rest (w : World) (a b : Nat) (s : PS) : Prop := Holds w a 9 #[.string (txt s.1)] ∧ Holds w b 4 #[.bool s.2] ∧ a ≠ b
set_option maxRecDepth 8000 in
theorem take_any {w : World} {a b : Nat} {s : PS} (h : Rest w a b s) (n : Nat) (hs : s.1.length ≤ 1000000) :
    Calls Try.prog 48 #[.int .i64 (n : Nat), .pointer (some ⟨a, 0, none⟩), .pointer (some ⟨b, 0, none⟩)] w fun e w' => e = .returned (.string (txt (takeP n s).1)) ∧ Rest w' a b (takeP n s).2 ∧ Two a b w w' := by
  obtain ⟨r, ok⟩ := s
  obtain ⟨ha, hb, hab⟩ := h
  dsimp only at ha hb hs
  have c1 : w.cell? ⟨a, 0, none⟩ = some (.string (txt r)) := ha.cell 0
  have c2 : w.cell? ⟨b, 0, none⟩ = some (.bool ok) := hb.cell 0
  have f1 := ha.frozen 0
  have f2 := hb.frozen 0
  have hsz : ((txt r).size : Int) = (r.length : Int) := by rw [txt_size]
  unfold takeP
  dsimp only
  by_cases hle : n ≤ r.length
  · rw [if_pos hle]
    have hl1 := slTo r n hle
    have hl2 := slFrom r n hle
    have hni : ¬ ((txt r).size : Int) < (n : Int) := by rw [hsz]; omega
    have HH : Hid (Rest (w.setCell ⟨a, 0, none⟩ (.string (txt (r.drop n)))) a b (r.drop n, ok) ∧ Two a b w (w.setCell ⟨a, 0, none⟩ (.string (txt (r.drop n))))) := ⟨⟨ha.set 0 _, hb.other _ _ (fun e => hab e.symm), hab⟩, two_left _ _ _⟩
    clear ha hb hsz
    go_enter Try.func48, Try.ntmps48
    go_wp2_with fail
    go_ret
    exact ⟨rfl, HH.out⟩
  · rw [if_neg hle]
    have hni : ((txt r).size : Int) < (n : Int) := by rw [hsz]; omega
    have c2' : (w.setCell ⟨a, 0, none⟩ (.string ⟨#[]⟩)).cell? ⟨b, 0, none⟩ = some (.bool ok) := (hb.other _ _ (fun e => hab e.symm)).cell 0
    have f2' := (hb.other ⟨a, 0, none⟩ (.string ⟨#[]⟩) (fun e => hab e.symm)).frozen 0
    have HH : Hid (Rest ((w.setCell ⟨a, 0, none⟩ (.string ⟨#[]⟩)).setCell ⟨b, 0, none⟩ (.bool false)) a b ([], false) ∧ Two a b w ((w.setCell ⟨a, 0, none⟩ (.string ⟨#[]⟩)).setCell ⟨b, 0, none⟩ (.bool false))) := by
      refine ⟨⟨(ha.set 0 _).other _ _ hab, (hb.other _ _ (fun e => hab e.symm)).set 0 _, hab⟩, (two_left _ _ _).trans (two_right _ _ _)⟩
    clear ha hb hsz
    go_enter Try.func48, Try.ntmps48
    go_wp2_with fail
    go_ret
    exact ⟨rfl, HH.out⟩
theorem beVal_snoc (l : List UInt8) (k : Nat) (x : UInt8) (h : l[k]? = some x) : beVal (l.take (k + 1)) = beVal (l.take k) * 256 + x.toNat := by
  unfold beVal
  rw [List.take_add_one, h, List.foldl_append]
  rfl
theorem or_eight (x y : Nat) (hx : x < 16777216) (hy : y < 256) : bits .or .i64 ((x : Int) * 256) (y : Int) = ((x * 256 + y : Nat) : Int) := by
  have e3 := Nat.two_pow_add_eq_or_of_lt (i := 8) (b := y) (by omega) x
  have e4 : (BitVec.ofInt 64 ((x : Int) * 256)).toNat = 2 ^ 8 * x := by rw [BitVec.toNat_ofInt]; omega
  have e5 : (BitVec.ofInt 64 (y : Int)).toNat = y := by rw [BitVec.toNat_ofInt]; omega
  show IntKind.i64.wrap (((BitVec.ofInt 64 ((x : Int) * 256)) ||| (BitVec.ofInt 64 (y : Int))).toNat : Nat) = _
  rw [BitVec.toNat_or, e4, e5, ← e3, IntKind.wrap_i64]
  omega
set_option maxRecDepth 8000 in
theorem number_any {w : World} {a b g : Nat} {s : PS} (h : Rest w a b s) (hg : Holds w g 55 #[.func (.func 48) #[] #[.pointer (some ⟨a, 0, none⟩), .pointer (some ⟨b, 0, none⟩)]]) (n : Nat) (hn : n ≤ 4) (hs : s.1.length ≤ 1000000) :
    Calls Try.prog 49 #[.int .i64 (n : Nat), .pointer (some ⟨g, 0, none⟩)] w fun e w' => e = .returned (.int .i64 ((numP n s).1 : Nat)) ∧ Rest w' a b (numP n s).2 ∧ Two a b w w' := by
  have ht := take_any h n hs
  have c0 : w.cell? ⟨g, 0, none⟩ = some (.func (.func 48) #[] #[.pointer (some ⟨a, 0, none⟩), .pointer (some ⟨b, 0, none⟩)]) := hg.cell 0
  unfold numP
  have hlt := (takeP_len n s).2.2
  dsimp only
  generalize (takeP n s).2 = s2 at ht ⊢
  generalize (takeP n s).1 = l at ht hlt ⊢
  clear h hg hs
  obtain ⟨m, hm⟩ : ∃ m, l.length = m := ⟨_, rfl⟩
  have HM : Hid (l.length = m) := hm
  have hsz : (txt l).size = m := by rw [txt_size]; exact hm
  have hm4 : m ≤ 4 := by omega
  clear hm
  go_enter Try.func49, Try.ntmps49
  go_wp2_with (go_at_call 48; refine ht.mono ?_; rintro e w1 ⟨rfl, hR1, hT1⟩)
  have HF : Hid (Rest w1 a b s2 ∧ Two a b w w1) := ⟨hR1, hT1⟩
  clear hR1 hT1 ht c0
  go_loopw [5, 12] (fun nv zv wr => ∃ k : Nat, k ≤ m ∧ zv = .int .i64 (k : Nat) ∧ nv = .int .i64 (beVal (l.take k) : Nat) ∧ wr = w1) (fun _ zv _ => m - (intOf zv).toNat)
  case atStart => exact ⟨0, Nat.zero_le _, rfl, rfl, rfl⟩
  case round =>
    obtain ⟨k, hk, rfl, hn1, rfl⟩ := hrel
    obtain ⟨x, hx⟩ : ∃ x, x = beVal (l.take k) := ⟨_, rfl⟩
    rw [← hx] at hn1
    have HX : Hid (x = beVal (l.take k)) := hx
    subst hn1
    by_cases hlt : k < m
    · have hki : (k : Int) < m := by omega
      have hx2 : x < 16777216 := by
        have h1 := beVal_lt (l.take k)
        have h3 : (l.take k).length ≤ 3 := by rw [List.length_take]; omega
        have h2 : 256 ^ (l.take k).length ≤ 256 ^ 3 := Nat.pow_le_pow_right (by omega) h3
        rw [hx]
        exact Nat.lt_of_lt_of_le h1 h2
      obtain ⟨y, hy⟩ : ∃ y, l[k]? = some y := ⟨_, List.getElem?_eq_getElem (by have := HM.out; omega)⟩
      have hkS : k < (txt l).size := by omega
      have hby : (txt l)[k] = y := by
        have h1 := (List.getElem?_eq_some_iff.1 hy).2
        rw [← h1]
        rfl
      have hyl := y.toNat_lt
      have HY : Hid (beVal (l.take (k + 1)) = x * 256 + y.toNat) := by show _ = _; rw [beVal_snoc l k y hy, hx]
      have hor := or_eight x y.toNat hx2 hyl
      have hw1 : IntKind.i64.wrap ((x : Int) * 256) = (x : Int) * 256 := by rw [IntKind.wrap_i64]; omega
      clear hx hy
      go_wp2_with fail
      refine ⟨⟨k + 1, by omega, by go_num, ?_, trivial⟩, by simp [intOf]; omega⟩
      rw [HY.out]
      simp
    · have hki : ¬ (k : Int) < m := by omega
      have HE : Hid (beVal l = x) := by
        show _ = _
        rw [hx, List.take_of_length_le (by have := HM.out; omega)]
      clear hx
      go_wp2_with fail
      go_ret
      rw [HE.out]
      exact ⟨rfl, HF.out⟩
end Go.Proofs.Ytdgfjaidnedaiaa
