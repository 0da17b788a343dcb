/-
  What the document's calls of Used and Fail do.
-/
import Derived.Test.YtonmjkalkkfhhaaDRSetW
namespace Go.Proofs.Ytonmjkalkkfhhaa
open Go Go.RowKit Go.Maps

theorem lastPut_of_mem : ∀ {L : List (Int × ByteArray)} {p : Int × ByteArray}, p ∈ L → ∃ s, lastPut L p.1 = some s
  | q :: L, p, h => by
    rw [lastPut_cons]
    rcases List.mem_cons.1 h with rfl | h
    · cases lastPut L p.1 with
      | some s => exact ⟨s, rfl⟩
      | none => exact ⟨p.2, by rw [if_pos rfl]; rfl⟩
    · obtain ⟨s, e⟩ := lastPut_of_mem h
      exact ⟨s, by rw [e]; rfl⟩
/-- So many of what lasts, and of the writes. -/
structure UsedTo (l : List ByteArray) (i : Nat) (P : List (Int × ByteArray)) (n : Int) : Prop where
  old : ∀ u : Nat, u < i → (lst l u).size ≠ 0 → (u : Int) < n
  new : ∀ p ∈ P, p.1 < n
  low : 0 ≤ n
  high : n ≤ 65536
  one : n = 0 ∨ (lst l (n - 1)).size ≠ 0 ∨ ∃ p ∈ P, p.1 = n - 1
theorem UsedTo.is {D : Dev} {R : RDev} {n : Int} (h : UsedTo R.lasts R.lasts.length R.puts n) (s : Sim D R) : UsedIs D.pages n := by
  refine ⟨fun u x hx => ?_, h.low, ?_⟩
  · by_cases h0 : 0 ≤ u
    · rw [s.pages u h0] at hx
      unfold pgOf at hx
      cases hp : lastPut R.puts u with
      | some t => exact h.new _ (lastPut_mem hp)
      | none =>
        rw [hp] at hx
        dsimp only at hx
        by_cases hz : (lst R.lasts u).size = 0
        · rw [if_pos hz] at hx; cases hx
        · have hu : u.toNat < R.lasts.length := by
            apply Classical.byContradiction
            intro q
            apply hz
            unfold lst
            rw [List.getD_eq_getElem?_getD, List.getElem?_eq_none (by omega)]
            rfl
          have := h.old u.toNat hu (by rw [show ((u.toNat : Nat) : Int) = u by omega]; exact hz)
          omega
    · rw [s.low u (by omega)] at hx; cases hx
  · rcases h.one with e | e | ⟨p, hp, e⟩
    · exact .inl e
    · by_cases h0 : n = 0
      · exact .inl h0
      · have hl := h.low
        refine .inr ?_
        rw [s.pages (n - 1) (by omega)]
        unfold pgOf
        cases lastPut R.puts (n - 1) with
        | some t => exact ⟨_, rfl⟩
        | none => exact ⟨_, by dsimp only; rw [if_neg e]⟩
    · have h0 := (s.puts p hp).1
      refine .inr ?_
      rw [s.pages (n - 1) (by omega)]
      unfold pgOf
      obtain ⟨t, ht⟩ := lastPut_of_mem hp
      rw [e] at ht
      rw [ht]
      exact ⟨_, rfl⟩
theorem UsedTo.step {l : List ByteArray} {i : Nat} {n : Int} (h : UsedTo l i [] n) (hi : i < 65536) : ((lst l i).size ≠ 0 → UsedTo l (i + 1) [] ((i : Int) + 1)) ∧ ((lst l i).size = 0 → UsedTo l (i + 1) [] n) := by
  refine ⟨fun q => ⟨fun u hu _ => by omega, fun p hp => (by cases hp), by omega, by omega, .inr (.inl (by rw [show (i : Int) + 1 - 1 = i by omega]; exact q))⟩, fun q => ⟨fun u hu hz => ?_, fun p hp => (by cases hp), h.low, h.high, ?_⟩⟩
  · by_cases e : u = i
    · subst e; exact absurd q hz
    · exact h.old u (by omega) hz
  · rcases h.one with e | e | ⟨p, hp, _⟩
    · exact .inl e
    · exact .inr (.inl e)
    · cases hp
theorem UsedTo.put {l : List ByteArray} {i : Nat} {P : List (Int × ByteArray)} {n : Int} (h : UsedTo l i P n) (p : Int × ByteArray) (hp : 0 ≤ p.1 ∧ p.1 < 65536) : (n ≤ p.1 → UsedTo l i (P ++ [p]) (p.1 + 1)) ∧ (¬ n ≤ p.1 → UsedTo l i (P ++ [p]) n) := by
  refine ⟨fun q => ⟨fun u hu hz => by have := h.old u hu hz; omega, fun x hx => ?_, by omega, by omega, .inr (.inr ⟨p, by simp, by omega⟩)⟩, fun q => ⟨h.old, fun x hx => ?_, h.low, h.high, ?_⟩⟩
  · rcases List.mem_append.1 hx with e | e
    · have := h.new x e; omega
    · rw [List.mem_singleton.1 e]; omega
  · rcases List.mem_append.1 hx with e | e
    · exact h.new x e
    · rw [List.mem_singleton.1 e]; omega
  · rcases h.one with e | e | ⟨y, hy, e⟩
    · exact .inl e
    · exact .inr (.inl e)
    · exact .inr (.inr ⟨y, List.mem_append_left _ hy, e⟩)
theorem empty_of {x : ByteArray} : x.toList.isEmpty = decide (x.size = 0) := by
  by_cases h : x.size = 0
  · rw [decide_eq_true h, size_zero h, ByteArray.toList_eq]; rfl
  · rw [decide_eq_false h, ByteArray.toList_eq, List.isEmpty_eq_false_iff]
    intro q
    apply h
    show x.data.size = 0
    rw [← Array.length_toList, q]
    rfl
section
variable {w : World} {base rb : Nat} {vl vp vf : Value} {R : RDev}
set_option maxRecDepth 8000 in
set_option maxHeartbeats 4000000 in
theorem rused_any (h : RAt w base rb vl vp vf R) {N : Nat} (ok : R.ok N) (hN : N < 1000000000) :
    Calls Try.prog 34 #[.pointer (some ⟨rb, 0, none⟩)] w fun e w' => ∃ n, e = .returned (.int .i64 n) ∧ UsedTo R.lasts R.lasts.length R.puts n ∧ w' = w := by
  have hc1 : w.cell? ⟨rb, 1, none⟩ = some vl := h.cells.cell 1
  have hc2 : w.cell? ⟨rb, 2, none⟩ = some vp := h.cells.cell 2
  have HR : Hid (RAt w base rb vl vp vf R) := h
  have HO : Hid (R.ok N) := ok
  obtain ⟨L, hL⟩ : ∃ L, L = R.lasts.length := ⟨_, rfl⟩
  obtain ⟨M, hM⟩ : ∃ M, M = R.puts.length := ⟨_, rfl⟩
  have hLb : L ≤ 65536 := by rw [hL]; exact ok.lasts
  have hMb : M ≤ 1000000000 := by rw [hM]; have := ok.puts; omega
  obtain ⟨pl, cl, hvl⟩ := slice_of h.lasts
  obtain ⟨pp, cp, hvp⟩ := slice_of h.puts
  rw [← hL] at hvl
  rw [← hM] at hvp
  rw [← hL]
  have HL : Hid (L = R.lasts.length ∧ M = R.puts.length) := ⟨hL, hM⟩
  subst hvl hvp
  clear hL hM h ok
  have hLi : (L : Int) ≤ 65536 := by omega
  have hMi : (M : Int) ≤ 1000000000 := by omega
  go_enter Try.func34, Try.ntmps34
  go_wp2_with fail
  go_loopw [3, 4] (fun y z wr => ∃ (i : Nat) (n : Int), y = .int .i64 n ∧ z = .int .i64 (i : Nat) ∧ i ≤ L ∧ UsedTo R.lasts i [] n ∧ wr = w) (fun _ z _ => L - (intOf z).toNat)
  case atStart => exact ⟨0, 0, rfl, rfl, Nat.zero_le _, ⟨fun u hu => by omega, fun p hp => (by cases hp), by omega, by omega, .inl rfl⟩, rfl⟩
  case round =>
    obtain ⟨i, n, rfl, rfl, hi, hU, rfl⟩ := hrel
    by_cases hil : i < L
    · have hii : (i : Int) < L := by omega
      obtain ⟨x, hx⟩ : ∃ x, R.lasts[i]? = some x := ⟨_, List.getElem?_eq_getElem (by have := HL.out.1; omega)⟩
      obtain ⟨g, cap, hv, hcx⟩ := row_at (f := fun s => Value.string s) HR.out.lasts (x := x) hx
      injection hv with e1 _ e3
      subst e1 e3
      have hl : lst R.lasts i = x := by
        unfold lst
        rw [List.getD_eq_getElem?_getD, Int.toNat_natCast, hx]
        rfl
      have hst := hU.step (by omega)
      rw [hl] at hst
      have HS : Hid _ := hst
      clear hl hx hst hU
      by_cases he : x.size = 0
      · have heb : x.toList.isEmpty = true := by rw [empty_of, decide_eq_true he]
        go_wp2_with fail
        exact ⟨⟨i + 1, n, rfl, by go_num, by omega, HS.out.2 he, trivial⟩, by simp [intOf]; omega⟩
      · have heb : x.toList.isEmpty = false := by rw [empty_of, decide_eq_false he]
        go_wp2_with fail
        exact ⟨⟨i + 1, (i : Int) + 1, by go_num, by go_num, by omega, HS.out.1 he, trivial⟩, by simp [intOf]; omega⟩
    · have hii : ¬ (i : Int) < L := by omega
      obtain rfl : i = L := by omega
      have HU : Hid (UsedTo R.lasts i [] n) := hU
      clear hU
      go_wp2_with fail
      go_loopw [3, 5] (fun y z wq => ∃ (j : Nat) (m : Int), y = .int .i64 m ∧ z = .int .i64 (j : Nat) ∧ j ≤ M ∧ UsedTo R.lasts i (R.puts.take j) m ∧ wq = wr) (fun _ z _ => M - (intOf z).toNat)
      case atStart => exact ⟨0, n, rfl, rfl, Nat.zero_le _, by rw [List.take_zero]; exact HU.out, rfl⟩
      case round =>
        obtain ⟨j, m, rfl, rfl, hj, hU, rfl⟩ := hrel
        by_cases hjl : j < M
        · have hjj : (j : Int) < M := by omega
          obtain ⟨p, hx⟩ : ∃ p, R.puts[j]? = some p := ⟨_, List.getElem?_eq_getElem (by have := HL.out.2; omega)⟩
          obtain ⟨g, cap, hv, hcx, _⟩ := put_at HR.out.puts hx
          injection hv with e1 _ e3
          subst e1 e3
          have hpb := (HO.out.pages p (List.mem_of_getElem? hx)).1
          have hst := hU.put p hpb
          rw [show R.puts.take j ++ [p] = R.puts.take (j + 1) by rw [List.take_add_one, hx]; rfl] at hst
          have HS : Hid _ := hst
          clear hx hst hU
          by_cases he : m ≤ p.1
          · go_wp2_with fail
            exact ⟨⟨j + 1, p.1 + 1, by go_num, by go_num, by omega, HS.out.1 he, trivial⟩, by simp [intOf]; omega⟩
          · go_wp2_with fail
            exact ⟨⟨j + 1, m, rfl, by go_num, by omega, HS.out.2 he, trivial⟩, by simp [intOf]; omega⟩
        · have hjj : ¬ (j : Int) < M := by omega
          have hti : R.puts.take j = R.puts := List.take_of_length_le (by have := HL.out.2; omega)
          rw [hti] at hU
          have HU2 : Hid (UsedTo R.lasts i R.puts m) := hU
          clear hU hti
          go_wp2_with fail
          go_ret
          exact ⟨_, rfl, HU2.out, rfl⟩
end
end Go.Proofs.Ytonmjkalkkfhhaa
