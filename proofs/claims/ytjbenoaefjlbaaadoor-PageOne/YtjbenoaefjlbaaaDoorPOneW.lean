/-
  PageOne's walk.
-/
import Derived.Test.YtjbenoaefjlbaaaDoorPAwake
namespace Go.Proofs.YtjbenoaefjlbaaaDoor
open Go Go.RowKit

theorem text_eq {a b : ByteArray} (h : a = b) : (a.toList == b.toList) = true := by rw [h]; exact beq_self_eq_true _
set_option maxRecDepth 8000 in
set_option maxHeartbeats 8000000 in
theorem one_walk (k l : UInt8) (a b : ByteArray) (w : World) (hT : Tabs w) (ha : a.size ≤ 9223372036854775807) (hb : b.size ≤ 9223372036854775807) :
    Calls Tryd.prog 6 #[.agg #[.int .u8 (oct k), .int .u8 (oct l)], .string a, .string b] w fun e w' => e = .returned (.bool true) ∧ Below w.heap.size w w' := by
  have hN := Holds.new w 40 #[.int .u8 (oct k), .int .u8 (oct l)]
  have hB0 := (Below.refl w.heap.size w).alloc (Nat.le_refl _) (.cells #[.int .u8 (oct k), .int .u8 (oct l)] 40)
  obtain ⟨g, hg⟩ : ∃ g, g = w.heap.size := ⟨_, rfl⟩
  rw [← hg] at hN
  have HG : Hid (g = w.heap.size) := hg
  clear hg
  go_enter Tryd.func6, Tryd.ntmps6
  go_wp2_with fail
  rw [← HG.out]
  refine (awake_any _ (hT.below hB0)).mono ?_
  rintro e w1 ⟨rfl, hB1'⟩
  have h1 := Below.holds hB1' hN
  have hB1 := hB0.trans (hB1'.mono hB0.size)
  have c0 : w1.cell? ⟨g, 0, none⟩ = some (.int .u8 (oct k)) := h1.cell 0
  clear hB1' hB0 hN
  go_wp2_with fail
  by_cases ha3 : a.size ≤ 1013
  · have hai : (a.size : Int) ≤ 1013 := by omega
    refine (seal_any k a _ (hT.below hB1) ha3).mono ?_
    rintro e w2 ⟨rfl, hB2'⟩
    have h2 := Below.holds hB2' h1
    have hB2 := hB1.trans (hB2'.mono hB1.size)
    have c1 : w2.cell? ⟨g, 1, none⟩ = some (.int .u8 (oct l)) := h2.cell 1
    have d0 : w2.cell? ⟨g, 0, none⟩ = some (.int .u8 (oct k)) := h2.cell 0
    clear hB2' hB1 h1 c0
    obtain ⟨S, hS⟩ : ∃ S, S = sealS k a := ⟨_, rfl⟩
    have hSs : (S.size : Int) = 1024 := by rw [hS, sealS_size k ha3]; rfl
    rw [← hS]
    have HS : Hid (S = sealS k a) := hS
    clear hS
    go_wp2_with fail
    by_cases hb3 : b.size ≤ 1013
    · have hbi : (b.size : Int) ≤ 1013 := by omega
      refine (seal_any l b _ (hT.below hB2) hb3).mono ?_
      rintro e w3 ⟨rfl, hB3'⟩
      have h3 := Below.holds hB3' h2
      have hB3 := hB2.trans (hB3'.mono hB2.size)
      have e0 : w3.cell? ⟨g, 0, none⟩ = some (.int .u8 (oct k)) := h3.cell 0
      have e1 : w3.cell? ⟨g, 1, none⟩ = some (.int .u8 (oct l)) := h3.cell 1
      clear hB3' hB2 h2 c1 d0 h3
      obtain ⟨T, hTT⟩ : ∃ T, T = sealS l b := ⟨_, rfl⟩
      rw [← hTT]
      have HT : Hid (T = sealS l b) := hTT
      clear hTT
      by_cases hk : k = l
      · subst hk
        by_cases hab : a = b
        · subst hab
          have q1 : (S.toList == T.toList) = true := text_eq (by rw [HS.out, HT.out])
          go_wp2_with fail
          go_ret
          exact ⟨rfl, hB3⟩
        · have q1 : (S.toList == T.toList) = false := text_ne (fun q => hab (seal_inj ha3 hb3 (by rw [← HS.out, ← HT.out, q])).2)
          have q2 : (a.toList == b.toList) = false := text_ne hab
          go_wp2_with fail
          go_ret
          exact ⟨rfl, hB3⟩
      · have q1 : (S.toList == T.toList) = false := text_ne (fun q => hk (seal_inj ha3 hb3 (by rw [← HS.out, ← HT.out, q])).1)
        have hki : (oct k == oct l) = false := beq_eq_false_iff_ne.2 fun q => hk (oct_inj q)
        have hki2 : ¬ oct k = oct l := fun q => hk (oct_inj q)
        go_wp2_with fail
        go_ret
        exact ⟨rfl, hB3⟩
    · have hbi : decide ((b.size : Int) ≤ 1013) = false := decide_eq_false (by omega)
      refine (seal_no l b _ (by omega)).mono ?_
      rintro e w3 ⟨rfl, hB3'⟩
      have hB3 := hB2.trans (hB3'.mono hB2.size)
      clear hB3' hB2 h2 c1 d0
      go_wp2_with fail
      go_ret
      exact ⟨rfl, hB3⟩
  · have hai : decide ((a.size : Int) ≤ 1013) = false := decide_eq_false (by omega)
    refine (seal_no k a _ (by omega)).mono ?_
    rintro e w2 ⟨rfl, hB2'⟩
    have h2 := Below.holds hB2' h1
    have hB2 := hB1.trans (hB2'.mono hB1.size)
    have c1 : w2.cell? ⟨g, 1, none⟩ = some (.int .u8 (oct l)) := h2.cell 1
    clear hB2' hB1 h1 c0
    go_wp2_with fail
    by_cases hb3 : b.size ≤ 1013
    · have hbi : (b.size : Int) ≤ 1013 := by omega
      refine (seal_any l b _ (hT.below hB2) hb3).mono ?_
      rintro e w3 ⟨rfl, hB3'⟩
      have hB3 := hB2.trans (hB3'.mono hB2.size)
      generalize sealS l b = T
      clear hB3' hB2 h2 c1
      go_wp2_with fail
      go_ret
      exact ⟨rfl, hB3⟩
    · have hbi : decide ((b.size : Int) ≤ 1013) = false := decide_eq_false (by omega)
      refine (seal_no l b _ (by omega)).mono ?_
      rintro e w3 ⟨rfl, hB3'⟩
      have hB3 := hB2.trans (hB3'.mono hB2.size)
      clear hB3' hB2 h2 c1
      go_wp2_with fail
      go_ret
      exact ⟨rfl, hB3⟩
end Go.Proofs.YtjbenoaefjlbaaaDoor
