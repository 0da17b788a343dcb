/-
  The program's mayBe, cellSize and the document's may, cell.
-/
import Derived.Test.YtdgfjaidnedaiaaEPure
namespace Go.Proofs.Ytdgfjaidnedaiaa
open Go Go.RowKit

theorem empty_ne {v : ByteArray} (h : v.size ≠ 0) : (v.toList == ([] : List UInt8)) = false := by
  rw [beq_eq_false_iff_ne]
  intro e
  rw [ByteArray.toList_eq] at e
  apply h
  show v.data.size = 0
  rw [← Array.length_toList, e]
  rfl
theorem empty_eq {v : ByteArray} (h : v.size = 0) : v = ⟨#[]⟩ := by
  have : v.data.size = 0 := h
  exact ByteArray.ext (Array.eq_empty_of_size_eq_zero this)
theorem run_notE (o : Bool) (w : World) : (Op.unary UnOp.not (.bool o)).run Try.prog w = .ok (.bool (!o)) w := rfl
theorem emp_eq : (⟨#[]⟩ : ByteArray) = ByteArray.empty := rfl
set_option maxRecDepth 8000 in
set_option maxHeartbeats 1000000 in
theorem maybe_any (leaf : Bool) (c : Cl) (w : World) : Calls Try.prog 35 #[.bool leaf, cla c] w fun e w' => e = .returned (.bool (mayB leaf c)) ∧ Below w.heap.size w w' := by
  have hnot := run_notE
  obtain ⟨k, v, p, s⟩ := c
  unfold cla
  obtain ⟨r, hr⟩ : ∃ r, mayB leaf ⟨k, v, p, s⟩ = r := ⟨_, rfl⟩
  rw [hr]
  unfold mayB at hr
  dsimp only at hr ⊢
  have HR : Hid (_ = r) := hr
  clear hr
  by_cases hk : k.size ≤ 128
  · have hk1 : ¬ (128 : Int) < (k.size : Int) := by omega
    cases leaf with
    | true =>
      by_cases hp : p = 0
      · subst hp
        by_cases hv : v.size ≤ 200
        · have hv1 : (v.size : Int) ≤ 200 := by omega
          by_cases hs : s = (v.size : Int)
          · have hs1 : (s == (v.size : Int)) = true := by simpa using hs
            have HS : Hid (r = true) := by have := HR.out; simp [hk, hv, hs] at this; exact this
            clear hs HR
            go_enter Try.func35, Try.ntmps35
            go_wp2_with fail
            go_ret
            rw [HS.out]
            exact ⟨rfl, below_new1 _ _⟩
          · have hs1 : (s == (v.size : Int)) = false := by simpa using hs
            have HS : Hid (r = false) := by have := HR.out; simp [hk, hv, hs] at this; exact this
            clear HR
            go_enter Try.func35, Try.ntmps35
            go_wp2_with fail
            go_ret
            rw [HS.out]
            exact ⟨rfl, below_new1 _ _⟩
        · have hv1 : ¬ (v.size : Int) ≤ 200 := by omega
          have HS : Hid (r = false) := by have := HR.out; simp [hk, hv] at this; exact this
          clear HR
          go_enter Try.func35, Try.ntmps35
          go_wp2_with fail
          go_ret
          rw [HS.out]
          exact ⟨rfl, below_new1 _ _⟩
      · have hp0 : (p == 0) = false := by simpa using hp
        by_cases hp1 : 1 ≤ p
        · have hp2 : ¬ p < 1 := by omega
          by_cases hp3 : p ≤ 2147483647
          · have hp4 : ¬ 2147483647 < p := by omega
            by_cases hv : v.size = 0
            · obtain rfl := empty_eq hv
              by_cases hs1 : 0 ≤ s
              · by_cases hs2 : s ≤ 60000
                · have HS : Hid (r = true) := by have := HR.out; simp [hk, hp, hp1, hp3, hs1, hs2, emp_eq] at this; exact this
                  clear HR
                  go_enter Try.func35, Try.ntmps35
                  go_wp2_with fail
                  go_ret
                  rw [HS.out]
                  exact ⟨rfl, below_new1 _ _⟩
                · have HS : Hid (r = false) := by have := HR.out; simp [hk, hp, hp1, hp3, hs1, hs2] at this; exact this
                  clear HR
                  go_enter Try.func35, Try.ntmps35
                  go_wp2_with fail
                  go_ret
                  rw [HS.out]
                  exact ⟨rfl, below_new1 _ _⟩
              · have hs2 : ¬ 0 ≤ s := hs1
                have HS : Hid (r = false) := by have := HR.out; simp [hk, hp, hp1, hp3, hs1] at this; exact this
                clear HR
                go_enter Try.func35, Try.ntmps35
                go_wp2_with fail
                go_ret
                rw [HS.out]
                exact ⟨rfl, below_new1 _ _⟩
            · have hv1 := empty_ne hv
              have HS : Hid (r = false) := by have := HR.out; simp [hk, hp, hv] at this; exact this
              clear HR
              go_enter Try.func35, Try.ntmps35
              go_wp2_with fail
              go_ret
              rw [HS.out]
              exact ⟨rfl, below_new1 _ _⟩
          · have hp4 : 2147483647 < p := by omega
            have HS : Hid (r = false) := by have := HR.out; simp [hk, hp, hp3] at this; exact this
            clear HR
            go_enter Try.func35, Try.ntmps35
            go_wp2_with fail
            go_ret
            rw [HS.out]
            exact ⟨rfl, below_new1 _ _⟩
        · have hp2 : p < 1 := by omega
          have HS : Hid (r = false) := by have := HR.out; simp [hk, hp, hp1] at this; exact this
          clear HR
          go_enter Try.func35, Try.ntmps35
          go_wp2_with fail
          go_ret
          rw [HS.out]
          exact ⟨rfl, below_new1 _ _⟩
    | false =>
      by_cases hp1 : 1 ≤ p
      · have hp2 : ¬ p < 1 := by omega
        by_cases hp3 : p ≤ 2147483647
        · have hp4 : ¬ 2147483647 < p := by omega
          by_cases hv : v.size = 0
          · obtain rfl := empty_eq hv
            by_cases hs1 : s = 0
            · subst hs1
              have HS : Hid (r = true) := by have := HR.out; simp [hk, hp1, hp3, emp_eq] at this; exact this
              clear HR
              go_enter Try.func35, Try.ntmps35
              go_wp2_with fail
              go_ret
              rw [HS.out]
              exact ⟨rfl, below_new1 _ _⟩
            · have hs2 : (s == 0) = false := by simpa using hs1
              have HS : Hid (r = false) := by have := HR.out; simp [hk, hp1, hp3, hs1] at this; exact this
              clear HR
              go_enter Try.func35, Try.ntmps35
              go_wp2_with fail
              go_ret
              rw [HS.out]
              exact ⟨rfl, below_new1 _ _⟩
          · have hv1 := empty_ne hv
            have HS : Hid (r = false) := by have := HR.out; simp [hk, hv] at this; exact this
            clear HR
            go_enter Try.func35, Try.ntmps35
            go_wp2_with fail
            go_ret
            rw [HS.out]
            exact ⟨rfl, below_new1 _ _⟩
        · have hp4 : 2147483647 < p := by omega
          have HS : Hid (r = false) := by have := HR.out; simp [hk, hp3] at this; exact this
          clear HR
          go_enter Try.func35, Try.ntmps35
          go_wp2_with fail
          go_ret
          rw [HS.out]
          exact ⟨rfl, below_new1 _ _⟩
      · have hp2 : p < 1 := by omega
        have HS : Hid (r = false) := by have := HR.out; simp [hk, hp1] at this; exact this
        clear HR
        go_enter Try.func35, Try.ntmps35
        go_wp2_with fail
        go_ret
        rw [HS.out]
        exact ⟨rfl, below_new1 _ _⟩
  · have hk1 : (128 : Int) < (k.size : Int) := by omega
    have HS : Hid (r = false) := by have := HR.out; simp [hk] at this; exact this
    clear HR
    go_enter Try.func35, Try.ntmps35
    go_wp2_with fail
    go_ret
    rw [HS.out]
    exact ⟨rfl, below_new1 _ _⟩
set_option maxRecDepth 8000 in
set_option maxHeartbeats 1000000 in
theorem qmay_any (leaf : Bool) (c : Cl) (w : World) : Calls Try.prog 36 #[.bool leaf, cla c] w fun e w' => e = .returned (.bool (mayB leaf c)) ∧ Below w.heap.size w w' := by
  have hnot := run_notE
  obtain ⟨k, v, p, s⟩ := c
  unfold cla
  obtain ⟨r, hr⟩ : ∃ r, mayB leaf ⟨k, v, p, s⟩ = r := ⟨_, rfl⟩
  rw [hr]
  unfold mayB at hr
  dsimp only at hr ⊢
  have HR : Hid (_ = r) := hr
  clear hr
  by_cases hk : k.size ≤ 128
  · have hk1 : ¬ (128 : Int) < (k.size : Int) := by omega
    cases leaf with
    | true =>
      by_cases hp : p = 0
      · subst hp
        by_cases hv : v.size ≤ 200
        · have hv1 : (v.size : Int) ≤ 200 := by omega
          by_cases hs : s = (v.size : Int)
          · have hs1 : (s == (v.size : Int)) = true := by simpa using hs
            have HS : Hid (r = true) := by have := HR.out; simp [hk, hv, hs] at this; exact this
            clear hs HR
            go_enter Try.func36, Try.ntmps36
            go_wp2_with fail
            all_goals (go_ret; rw [HS.out]; exact ⟨rfl, below_new1 _ _⟩)
          · have hs1 : (s == (v.size : Int)) = false := by simpa using hs
            have HS : Hid (r = false) := by have := HR.out; simp [hk, hv, hs] at this; exact this
            clear HR
            go_enter Try.func36, Try.ntmps36
            go_wp2_with fail
            all_goals (go_ret; rw [HS.out]; exact ⟨rfl, below_new1 _ _⟩)
        · have hv1 : ¬ (v.size : Int) ≤ 200 := by omega
          have HS : Hid (r = false) := by have := HR.out; simp [hk, hv] at this; exact this
          clear HR
          go_enter Try.func36, Try.ntmps36
          go_wp2_with fail
          all_goals (go_ret; rw [HS.out]; exact ⟨rfl, below_new1 _ _⟩)
      · have hp0 : (p == 0) = false := by simpa using hp
        by_cases hp1 : 1 ≤ p
        · have hp2 : ¬ p < 1 := by omega
          by_cases hp3 : p ≤ 2147483647
          · have hp4 : ¬ 2147483647 < p := by omega
            by_cases hv : v.size = 0
            · obtain rfl := empty_eq hv
              by_cases hs1 : 0 ≤ s
              · by_cases hs2 : s ≤ 60000
                · have HS : Hid (r = true) := by have := HR.out; simp [hk, hp, hp1, hp3, hs1, hs2, emp_eq] at this; exact this
                  clear HR
                  go_enter Try.func36, Try.ntmps36
                  go_wp2_with fail
                  all_goals (go_ret; rw [HS.out]; exact ⟨rfl, below_new1 _ _⟩)
                · have HS : Hid (r = false) := by have := HR.out; simp [hk, hp, hp1, hp3, hs1, hs2] at this; exact this
                  clear HR
                  go_enter Try.func36, Try.ntmps36
                  go_wp2_with fail
                  all_goals (go_ret; rw [HS.out]; exact ⟨rfl, below_new1 _ _⟩)
              · have hs2 : ¬ 0 ≤ s := hs1
                have HS : Hid (r = false) := by have := HR.out; simp [hk, hp, hp1, hp3, hs1] at this; exact this
                clear HR
                go_enter Try.func36, Try.ntmps36
                go_wp2_with fail
                all_goals (go_ret; rw [HS.out]; exact ⟨rfl, below_new1 _ _⟩)
            · have hv1 := empty_ne hv
              have HS : Hid (r = false) := by have := HR.out; simp [hk, hp, hv] at this; exact this
              clear HR
              go_enter Try.func36, Try.ntmps36
              go_wp2_with fail
              all_goals (go_ret; rw [HS.out]; exact ⟨rfl, below_new1 _ _⟩)
          · have hp4 : 2147483647 < p := by omega
            have hv9 : v.size = 0 ∨ v.size ≠ 0 := by omega
            have HS : Hid (r = false) := by have := HR.out; simp [hk, hp, hp3] at this; exact this
            clear HR
            go_enter Try.func36, Try.ntmps36
            go_wp2_with fail
            all_goals (go_ret; rw [HS.out]; exact ⟨rfl, below_new1 _ _⟩)
        · have hp2 : p < 1 := by omega
          have HS : Hid (r = false) := by have := HR.out; simp [hk, hp, hp1] at this; exact this
          clear HR
          go_enter Try.func36, Try.ntmps36
          go_wp2_with fail
          all_goals (go_ret; rw [HS.out]; exact ⟨rfl, below_new1 _ _⟩)
    | false =>
      by_cases hp1 : 1 ≤ p
      · have hp2 : ¬ p < 1 := by omega
        by_cases hp3 : p ≤ 2147483647
        · have hp4 : ¬ 2147483647 < p := by omega
          by_cases hv : v.size = 0
          · obtain rfl := empty_eq hv
            by_cases hs1 : s = 0
            · subst hs1
              have HS : Hid (r = true) := by have := HR.out; simp [hk, hp1, hp3, emp_eq] at this; exact this
              clear HR
              go_enter Try.func36, Try.ntmps36
              go_wp2_with fail
              all_goals (go_ret; rw [HS.out]; exact ⟨rfl, below_new1 _ _⟩)
            · have hs2 : (s == 0) = false := by simpa using hs1
              have HS : Hid (r = false) := by have := HR.out; simp [hk, hp1, hp3, hs1] at this; exact this
              clear HR
              go_enter Try.func36, Try.ntmps36
              go_wp2_with fail
              all_goals (go_ret; rw [HS.out]; exact ⟨rfl, below_new1 _ _⟩)
          · have hv1 := empty_ne hv
            have HS : Hid (r = false) := by have := HR.out; simp [hk, hv] at this; exact this
            clear HR
            go_enter Try.func36, Try.ntmps36
            go_wp2_with fail
            all_goals (go_ret; rw [HS.out]; exact ⟨rfl, below_new1 _ _⟩)
        · have hp4 : 2147483647 < p := by omega
          have hv9 : v.size = 0 ∨ v.size ≠ 0 := by omega
          have HS : Hid (r = false) := by have := HR.out; simp [hk, hp3] at this; exact this
          clear HR
          go_enter Try.func36, Try.ntmps36
          go_wp2_with fail
          all_goals (go_ret; rw [HS.out]; exact ⟨rfl, below_new1 _ _⟩)
      · have hp2 : p < 1 := by omega
        have HS : Hid (r = false) := by have := HR.out; simp [hk, hp1] at this; exact this
        clear HR
        go_enter Try.func36, Try.ntmps36
        go_wp2_with fail
        all_goals (go_ret; rw [HS.out]; exact ⟨rfl, below_new1 _ _⟩)
  · have hk1 : (128 : Int) < (k.size : Int) := by omega
    have HS : Hid (r = false) := by have := HR.out; simp [hk] at this; exact this
    clear HR
    go_enter Try.func36, Try.ntmps36
    go_wp2_with fail
    all_goals (go_ret; rw [HS.out]; exact ⟨rfl, below_new1 _ _⟩)
set_option maxRecDepth 8000 in
theorem csize_any (leaf : Bool) (c : Cl) (h1 : c.k.size ≤ 1000000000) (h2 : c.v.size ≤ 1000000000) (w : World) : Calls Try.prog 37 #[.bool leaf, cla c] w fun e w' => e = .returned (.int .i64 (sizeC leaf c : Nat)) ∧ Below w.heap.size w w' := by
  have hnot := run_notE
  obtain ⟨k, v, p, s⟩ := c
  unfold cla
  obtain ⟨r, hr⟩ : ∃ r, sizeC leaf ⟨k, v, p, s⟩ = r := ⟨_, rfl⟩
  rw [hr]
  unfold sizeC at hr
  dsimp only at hr h1 h2 ⊢
  have HR : Hid (_ = r) := hr
  clear hr
  have hk1 : (k.size : Int) ≤ 1000000000 := by omega
  have hv1 : (v.size : Int) ≤ 1000000000 := by omega
  cases leaf with
  | true =>
    by_cases hp : p = 0
    · subst hp
      have HS : Hid ((r : Int) = 1 + (k.size : Int) + 2 + (v.size : Int)) := by show _ = _; have := HR.out; simp at this; omega
      clear HR
      go_enter Try.func37, Try.ntmps37
      go_wp2_with fail
      go_ret
      rw [HS.out]
      exact ⟨rfl, below_new1 _ _⟩
    · have hp0 : (p != 0) = true := by simpa using hp
      have HS : Hid ((r : Int) = 1 + (k.size : Int) + 9) := by show _ = _; have := HR.out; simp [hp] at this; omega
      clear HR
      go_enter Try.func37, Try.ntmps37
      go_wp2_with fail
      go_ret
      rw [HS.out]
      exact ⟨by go_num, below_new1 _ _⟩
  | false =>
    have HS : Hid ((r : Int) = 1 + (k.size : Int) + 4) := by show _ = _; have := HR.out; simp at this; omega
    clear HR
    go_enter Try.func37, Try.ntmps37
    go_wp2_with fail
    go_ret
    rw [HS.out]
    exact ⟨rfl, below_new1 _ _⟩
set_option maxRecDepth 8000 in
theorem qcsize_any (leaf : Bool) (c : Cl) (h1 : c.k.size ≤ 1000000000) (h2 : c.v.size ≤ 1000000000) (w : World) : Calls Try.prog 38 #[.bool leaf, cla c] w fun e w' => e = .returned (.int .i64 (sizeC leaf c : Nat)) ∧ Below w.heap.size w w' := by
  have hnot := run_notE
  obtain ⟨k, v, p, s⟩ := c
  unfold cla
  obtain ⟨r, hr⟩ : ∃ r, sizeC leaf ⟨k, v, p, s⟩ = r := ⟨_, rfl⟩
  rw [hr]
  unfold sizeC at hr
  dsimp only at hr h1 h2 ⊢
  have HR : Hid (_ = r) := hr
  clear hr
  have hk1 : (k.size : Int) ≤ 1000000000 := by omega
  have hv1 : (v.size : Int) ≤ 1000000000 := by omega
  cases leaf with
  | true =>
    by_cases hp : p = 0
    · subst hp
      have HS : Hid ((r : Int) = 1 + (k.size : Int) + 2 + (v.size : Int)) := by show _ = _; have := HR.out; simp at this; omega
      clear HR
      go_enter Try.func38, Try.ntmps38
      go_wp2_with fail
      go_ret
      rw [HS.out]
      exact ⟨rfl, below_new1 _ _⟩
    · have hp0 : (p != 0) = true := by simpa using hp
      have HS : Hid ((r : Int) = 1 + (k.size : Int) + 9) := by show _ = _; have := HR.out; simp [hp] at this; omega
      clear HR
      go_enter Try.func38, Try.ntmps38
      go_wp2_with fail
      go_ret
      rw [HS.out]
      exact ⟨by go_num, below_new1 _ _⟩
  | false =>
    have HS : Hid ((r : Int) = 1 + (k.size : Int) + 4) := by show _ = _; have := HR.out; simp at this; omega
    clear HR
    go_enter Try.func38, Try.ntmps38
    go_wp2_with fail
    go_ret
    rw [HS.out]
    exact ⟨rfl, below_new1 _ _⟩
end Go.Proofs.Ytdgfjaidnedaiaa
