/-
  The chapter's examples hold.
-/
import Derived.Test.YtdgfjaidnedaiaaEReadW
namespace Go.Proofs.Ytdgfjaidnedaiaa
open Go Go.RowKit Go.Lib

def exA : Cl := ⟨⟨#[97]⟩, ⟨#[49]⟩, 0, 1⟩
def exB : Cl := ⟨⟨#[98, 98]⟩, ⟨#[]⟩, 5, 300⟩
def exC : Cl := ⟨⟨#[]⟩, ⟨#[]⟩, 1, 0⟩
def exD : Cl := ⟨⟨#[109]⟩, ⟨#[]⟩, 2, 0⟩
def exT : List UInt8 := [0, 2, 1, 97, 0, 1, 49, 2, 98, 98, 1, 0, 0, 0, 5, 0, 0, 1, 44]
theorem kl_ex1 : kl ⟨#[97]⟩ ⟨#[98, 98]⟩ = true := by unfold kl; rw [ByteArray.toList_eq, ByteArray.toList_eq]; rfl
theorem ex_ok : OkL true [exA, exB] := by
  refine ⟨fun c hc => ?_, ?_⟩
  · rcases List.mem_cons.1 hc with rfl | hc
    · rfl
    · rw [List.mem_singleton.1 hc]; rfl
  · refine List.pairwise_cons.2 ⟨fun b hb => ?_, List.pairwise_singleton _ _⟩
    rw [List.mem_singleton.1 hb]
    exact kl_ex1
theorem ex_bytes : bytesL true [exA, exB] = exT := by decide
theorem ex_size : sizeL true [exA, exB] = 19 := by decide
theorem ex_bytV : bytV true [exA, exB] = .tuple #[.string (txt exT), .int .i64 0] := by
  unfold bytV
  rw [if_pos ex_ok, if_pos (by rw [ex_size]; omega)]
  unfold bytesT
  rw [ex_bytes]
  rfl
theorem ex_is : IsOf true exT [exA, exB] := ⟨ex_ok, by rw [ex_size]; omega, ex_bytes⟩
theorem kl_l (a b : List UInt8) : kl ⟨a.toArray⟩ ⟨b.toArray⟩ = Op.bytesLess a b := by unfold kl; rw [ByteArray.toList_eq, ByteArray.toList_eq]
theorem ex_f1 : fndN [exA, exB] ⟨#[98]⟩ = 1 := tw_of (by decide) (fun i x hi hx => by
    have : i = 0 := by omega
    subst this
    simp at hx
    rw [← hx]
    exact kl_l [97] [98]) (fun x hx => by
    simp at hx
    rw [← hx]
    exact kl_l [98, 98] [98])
theorem ex_i1 : isAt [exA, exB] ⟨#[98]⟩ = false := by
  rw [isAt_some (x := exB) (by rw [ex_f1]; rfl)]
  decide
theorem ex_f2 : fndN [exA, exB] ⟨#[97]⟩ = 0 ∧ isAt [exA, exB] ⟨#[97]⟩ = true := fndN_of ex_ok.2 (i := 0) (x := exA) rfl
theorem ex_rise : Rises [exC, exD] := by
  refine List.pairwise_cons.2 ⟨fun b hb => ?_, List.pairwise_singleton _ _⟩
  rw [List.mem_singleton.1 hb]
  exact kl_l [] [109]
theorem ex_u1 : upN [exC, exD] ⟨#[97]⟩ = 1 := tw_of (by decide) (fun i x hi hx => by
    have : i = 0 := by omega
    subst this
    simp at hx
    rw [← hx]
    show (!kl ⟨#[97]⟩ ⟨#[]⟩) = true
    rw [kl_l [97] []]
    rfl) (fun x hx => by
    simp at hx
    rw [← hx]
    show (!kl ⟨#[97]⟩ ⟨#[109]⟩) = false
    rw [kl_l [97] [109]]
    rfl)
theorem ex_u2 : upN [exC, exD] ⟨#[109]⟩ = 2 := upN_of ex_rise (i := 1) (x := exD) rfl
theorem ex_short : Short 10000 [exC, exD] ∧ Short 10000 [exA, exB] := by
  refine ⟨fun c hc => ?_, fun c hc => ?_⟩
  · rcases List.mem_cons.1 hc with rfl | hc
    · decide
    · rw [List.mem_singleton.1 hc]; decide
  · rcases List.mem_cons.1 hc with rfl | hc
    · decide
    · rw [List.mem_singleton.1 hc]; decide
theorem two_cl {W : World} {g : Nat} {x y : Cl} (h : Holds W g 27 #[.string x.k, .string x.v, .int .i64 x.p, .int .i64 x.s, .string y.k, .string y.v, .int .i64 y.p, .int .i64 y.s]) : CellsAt W (.slice (some ⟨g, 0, none⟩) 2 2) [x, y] := by
  refine .inr ⟨g, 0, 2, rfl, Nat.le_refl _, fun i z hz => ?_⟩
  match i with
  | 0 => simp at hz; subst hz; exact ⟨h.cell 0, h.cell 1, h.cell 2, h.cell 3⟩
  | 1 => simp at hz; subst hz; exact ⟨h.cell 4, h.cell 5, h.cell 6, h.cell 7⟩
  | i + 2 => simp at hz
set_option maxRecDepth 8000 in
set_option maxHeartbeats 4000000 in
theorem awake_any (w : World) : Calls Try.prog 9 #[] w fun e w' => e = .returned (.bool true) ∧ Below w.heap.size w w' := by
  have hnot := run_notE
  obtain ⟨W0, g0, hW0, hg0, hB0, hh0⟩ : ∃ W0 g0, w.alloc (.cells #[.string ⟨#[97]⟩, .string ⟨#[49]⟩, .int .i64 0, .int .i64 1, .string ⟨#[98, 98]⟩, .string ⟨#[]⟩, .int .i64 5, .int .i64 300] 27) = W0 ∧ w.heap.size = g0 ∧ Below w.heap.size w W0 ∧ Holds W0 g0 27 #[.string ⟨#[97]⟩, .string ⟨#[49]⟩, .int .i64 0, .int .i64 1, .string ⟨#[98, 98]⟩, .string ⟨#[]⟩, .int .i64 5, .int .i64 300] := ⟨_, _, rfl, rfl, below_new1 _ _, Holds.new _ _ _⟩
  have hc0 := two_cl (x := exA) (y := exB) hh0
  obtain ⟨W1, g1, hW1, hg1, hB1, hh1, a0, a1⟩ := box_node W0 true (.slice (some ⟨g0, 0, none⟩) 2 2)
  have hc1 := hc0.below hB1
  have hby := bytes_any (leaf := true) hc1 (by simp) ex_short.2
  rw [ex_bytV] at hby
  have HB1 : Hid (Below w.heap.size w W1 ∧ w.heap.size = g0) := ⟨below_new hB0 hB1, hg0⟩
  unfold nodeV at hby
  clear hh0 hc0 hB0 hB1 hh1
  go_enter Try.func9, Try.ntmps9
  go_wp2_with fail
  refine hby.mono ?_
  rintro e W2 ⟨rfl, hB2⟩
  replace a0 := keep_cell hB2 a0
  replace a1 := keep_cell hB2 a1
  have hc2 := hc1.below hB2
  have HB2 : Hid (Below w.heap.size w W2) := below_new HB1.out.1 hB2
  clear hby hc1 hB2
  have hrd := read_any true exT (by decide) W2
  go_wp2_with fail
  refine hrd.mono ?_
  rintro e W3 ⟨hA, hB3⟩
  rcases hA with ⟨L, v3, hIs, rfl, hown3⟩ | ⟨hno, _⟩
  · have hLL := hIs.uniq ex_is
    subst hLL
    obtain ⟨p3, m3, c3, rfl, hm3, hat3⟩ := shape2 hown3
    obtain ⟨W4, g4, hW4, hg4, hB4, hh4, b0, b1⟩ := box_node W3 true (.slice p3 m3 c3)
    have hB24 := below_new hB3 hB4
    replace a0 := keep_cell hB24 a0
    replace a1 := keep_cell hB24 a1
    have hc4 := hc2.below hB24
    have hm4 := hat3.below hB4
    have HB4 : Hid (Below w.heap.size w W4) := below_new HB2.out hB24
    have hf1 := find_any (leaf := true) hc4 ex_ok.2 (by simp) ⟨#[98]⟩
    rw [ex_f1, ex_i1] at hf1
    unfold nodeV at hf1 ⊢
    clear hrd hc2 hown3 hB3 hB4 hB24 hh4 hm3 hat3 hIs
    go_wp2_with fail
    refine hf1.mono ?_
    rintro e W5 ⟨rfl, hB5⟩
    replace a0 := keep_cell hB5 a0
    replace a1 := keep_cell hB5 a1
    replace b0 := keep_cell hB5 b0
    replace b1 := keep_cell hB5 b1
    have hc5 := hc4.below hB5
    have hm5 := hm4.below hB5
    have HB5 : Hid (Below w.heap.size w W5) := below_new HB4.out hB5
    have hf2 := find_any (leaf := true) hc5 ex_ok.2 (by simp) ⟨#[97]⟩
    rw [ex_f2.1, ex_f2.2] at hf2
    unfold nodeV at hf2
    clear hf1 hc4 hm4 hB5
    go_wp2_with fail
    refine hf2.mono ?_
    rintro e W6 ⟨rfl, hB6⟩
    replace a0 := keep_cell hB6 a0
    replace a1 := keep_cell hB6 a1
    replace b0 := keep_cell hB6 b0
    replace b1 := keep_cell hB6 b1
    have hc6 := hc5.below hB6
    have hm6 := hm5.below hB6
    have HB6 : Hid (Below w.heap.size w W6) := below_new HB5.out hB6
    obtain ⟨W7, g7, hW7, hg7, hB7, hh7⟩ : ∃ W7 g7, W6.alloc (.cells #[.string ⟨#[]⟩, .string ⟨#[]⟩, .int .i64 1, .int .i64 0, .string ⟨#[109]⟩, .string ⟨#[]⟩, .int .i64 2, .int .i64 0] 27) = W7 ∧ W6.heap.size = g7 ∧ Below W6.heap.size W6 W7 ∧ Holds W7 g7 27 #[.string ⟨#[]⟩, .string ⟨#[]⟩, .int .i64 1, .int .i64 0, .string ⟨#[109]⟩, .string ⟨#[]⟩, .int .i64 2, .int .i64 0] := ⟨_, _, rfl, rfl, below_new1 _ _, Holds.new _ _ _⟩
    have hd7 := two_cl (x := exC) (y := exD) hh7
    obtain ⟨W8, g8, hW8, hg8, hB8, hh8, d0, d1⟩ := box_node W7 false (.slice (some ⟨g7, 0, none⟩) 2 2)
    have hB68 := below_new hB7 hB8
    replace a0 := keep_cell hB68 a0
    replace a1 := keep_cell hB68 a1
    replace b0 := keep_cell hB68 b0
    replace b1 := keep_cell hB68 b1
    have hc8 := hc6.below hB68
    have hm8 := hm6.below hB68
    have hd8 := hd7.below hB8
    have HB8 : Hid (Below w.heap.size w W8) := below_new HB6.out hB68
    have hsm := qsame_eq (leaf := true) hc8 hm8 (by simp)
    unfold nodeV at hsm
    clear hf2 hc5 hm5 hB6 hc6 hm6 hB7 hB8 hB68 hh7 hh8 hd7
    go_wp2_with fail
    refine hsm.mono ?_
    rintro e W9 ⟨rfl, hB9⟩
    replace d0 := keep_cell hB9 d0
    replace d1 := keep_cell hB9 d1
    have hd9 := hd8.below hB9
    have HB9 : Hid (Below w.heap.size w W9) := below_new HB8.out hB9
    have hch1 := child_any (leaf := false) hd9 ex_rise (by simp) ⟨#[97]⟩
    rw [ex_u1] at hch1
    unfold nodeV at hch1
    clear hsm hc8 hm8 hd8 hB9 a0 a1 b0 b1
    have hss : (txt exT).toList = [0, 2, 1, 97, 0, 1, 49, 2, 98, 98, 1, 0, 0, 0, 5, 0, 0, 1, 44] := by
      rw [ByteArray.toList_eq]
      rfl
    generalize txt exT = T9 at hss ⊢
    go_wp2_with fail
    refine hch1.mono ?_
    rintro e Wa ⟨rfl, hBa⟩
    replace d0 := keep_cell hBa d0
    replace d1 := keep_cell hBa d1
    have hda := hd9.below hBa
    have HBa : Hid (Below w.heap.size w Wa) := below_new HB9.out hBa
    have hch2 := child_any (leaf := false) hda ex_rise (by simp) ⟨#[109]⟩
    rw [ex_u2] at hch2
    unfold nodeV at hch2
    clear hch1 hd9 hBa
    go_wp2_with fail
    refine hch2.mono ?_
    rintro e Wb ⟨rfl, hBb⟩
    replace d0 := keep_cell hBb d0
    replace d1 := keep_cell hBb d1
    have hdb := hda.below hBb
    have HBb : Hid (Below w.heap.size w Wb) := below_new HBa.out hBb
    have hft := fits_any (leaf := false) hdb (by simp) ex_short.1
    rw [show sizeL false [exC, exD] = 13 by decide, show decide ((13 : Nat) ≤ 1013) = true by decide] at hft
    unfold nodeV at hft
    clear hch2 hda hBb
    go_wp2_with fail
    refine hft.mono ?_
    rintro e Wc ⟨rfl, hBc⟩
    go_wp2_with fail
    go_ret
    exact ⟨rfl, below_new HBb.out hBc⟩
  · exact absurd ⟨_, ex_is⟩ hno
end Go.Proofs.Ytdgfjaidnedaiaa
