/-
  A set and the list of its members, in memory, side by side.
-/
import Derived.Test.YtbenfmhcpipehaaBAskM
import Derived.Test.YtbenfmhcpipehaaBPlaysP
namespace Go.Proofs.Ytbenfmhcpipehaa
open Go Go.RowKit Go.Maps

theorem OwnInts.kept {w w' : World} {v : Value} {L : List Nat} (h : OwnInts w 0 v L) (hb : ∀ g, v.ownBlock = some g → w'.heap[g]? = w.heap[g]?) : OwnInts w' 0 v L := by
  refine ⟨h.1, h.2.imp id ?_⟩
  rintro ⟨g, cap, cur, rfl, h1, h2, h3⟩
  exact ⟨g, cap, cur, rfl, h1, (hb g rfl).trans h2, h3⟩
theorem OwnInts.block {w : World} {v : Value} {L : List Nat} (h : OwnInts w 0 v L) {g : Nat} (hg : v.ownBlock = some g) : g < w.heap.size ∧ ∃ cur, w.heap[g]? = some (.cells cur 3 (0, 0)) := by
  rcases h.2 with ⟨rfl, _⟩ | ⟨g', cap, cur, rfl, _, h2, _⟩
  · cases hg
  · simp [Value.ownBlock] at hg
    subst hg
    exact ⟨(Array.getElem?_eq_some_iff.1 h2).1, cur, h2⟩
theorem OwnInts.below0 {w w' : World} {v : Value} {L : List Nat} (h : OwnInts w 0 v L) (hB : Below w.heap.size w w') : OwnInts w' 0 v L :=
  h.kept fun _ hg => hB.block _ (h.block hg).1
theorem OwnInts.onlyS {w w' : World} {v : Value} {L : List Nat} {b : Nat} {mo : Option Nat} {M : Nat → Bool} (h : OwnInts w 0 v L) (hs : SetAt w b mo M) (k : OnlyS b mo w w') : OwnInts w' 0 v L := by
  refine h.kept fun g hg => ?_
  obtain ⟨h1, cur, h2⟩ := h.block hg
  refine k.block g h1 ?_ ?_
  · rintro rfl
    have := hs.ptr
    unfold Holds at this
    rw [this] at h2
    injection h2 with h2
    injection h2 with _ h2
    exact absurd h2 (by decide)
  · intro e
    have hm := hs.map
    rw [← e] at hm
    obtain ⟨es, clock, hq⟩ := MapAt.obj hm
    rw [hq] at h2
    cases h2
/-- The document's Add. -/
theorem qadd_any {w : World} {v : Value} {M : Nat → Bool} (hv : OwnInts w 0 v (memFrom M 0)) (hM : ∀ n, M n = true → n < 2147483648) (hln : (memFrom M 0).length ≤ 1000000) (n : Int) :
    Calls Try.prog 14 #[v, .int .i64 n] w fun e w' => ∃ v', e = .returned (.tuple #[v', .bool (addB M n)]) ∧ OwnInts w' 0 v' (memFrom (addM M n) 0) ∧ Below w.heap.size w w' := by
  by_cases hok : 0 ≤ n ∧ n ≤ 2147483647
  · obtain ⟨k, rfl⟩ := Int.eq_ofNat_of_zero_le hok.1
    have e2 : addM M (k : Int) = insN M k := by unfold addM; rw [if_pos hok, Int.toNat_natCast]
    cases hm : M k with
    | false =>
      have e1 : addB M (k : Int) = true := by unfold addB; rw [decide_eq_true hok, Int.toNat_natCast, hm]; rfl
      have hno : k ∉ memFrom M 0 := fun h => by rw [((mem_memFrom hM).1 h).2] at hm; cases hm
      refine (qadd_yes hv hln k (by omega) hno).mono ?_
      rintro e w' ⟨v', p, rfl, h1, h2, h3⟩
      rw [ins_mem hM (by omega) hno h2] at h1
      rw [e1, e2]
      exact ⟨v', rfl, h1, h3⟩
    | true =>
      have e1 : addB M (k : Int) = false := by unfold addB; rw [Int.toNat_natCast, hm]; simp
      refine (qadd_no hv hln (k : Int) (.inr (.inr (List.mem_map.2 ⟨k, (mem_memFrom hM).2 ⟨Nat.zero_le _, hm⟩, rfl⟩)))).mono ?_
      rintro e w' ⟨rfl, h3⟩
      rw [e1, e2, insN_same hm]
      exact ⟨v, rfl, hv.below0 h3, h3⟩
  · have e1 : addB M n = false := by unfold addB; rw [decide_eq_false hok]; rfl
    have e2 : addM M n = M := by unfold addM; rw [if_neg hok]
    refine (qadd_no hv hln n (by omega)).mono ?_
    rintro e w' ⟨rfl, h3⟩
    rw [e1, e2]
    exact ⟨v, rfl, hv.below0 h3, h3⟩
theorem addM_bound {M : Nat → Bool} (hM : ∀ n, M n = true → n < 2147483648) (x : Int) : ∀ n, addM M x n = true → n < 2147483648 := by
  unfold addM
  split
  · exact insN_bound hM (by omega)
  · exact hM
theorem addM_uni (M B : Nat → Bool) (x : Int) : addM (fun n => M n || B n) x = fun n => M n || addM B x n := by
  funext n
  unfold addM
  by_cases hx : 0 ≤ x ∧ x ≤ 2147483647
  · rw [if_pos hx, if_pos hx]
    unfold insN
    dsimp only
    cases decide (n = x.toNat) <;> cases M n <;> rfl
  · rw [if_neg hx, if_neg hx]
theorem addM_two (M : Nat → Bool) (x y : Int) : (fun n => M n || ofInts [x, y] n) = addM (addM M x) y := by
  have h1 := addM_ofInts [] x
  have h2 := addM_ofInts [x] y
  simp only [List.nil_append, List.cons_append] at h1 h2
  rw [← h2, ← addM_uni, ← h1, ← addM_uni]
  congr 2
  funext n
  rw [ofInts_nil, Bool.or_false]
theorem card_add (M : Nat → Bool) (hM : ∀ n, M n = true → n < 2147483648) (x : Int) : (memFrom (addM M x) 0).length ≤ (memFrom M 0).length + 1 := by
  rw [← card_len, ← card_len]
  have h := card_uni hM (addM_bound (M := ofInts []) (fun n h => by rw [ofInts_nil] at h; cases h) x)
  have e : (fun n => M n || addM (ofInts []) x n) = addM M x := by
    rw [← addM_uni]
    congr 1
    funext n
    rw [ofInts_nil, Bool.or_false]
  rw [e] at h
  have h1 : card (addM (ofInts []) x) ≤ 1 := by
    rw [card_len]
    unfold addM
    split
    · have hr := memFrom_rises (insN (ofInts []) x.toNat) 0
      have hb : ∀ n, insN (ofInts []) x.toNat n = true → n < 2147483648 := insN_bound (fun n h => by rw [ofInts_nil] at h; cases h) (by omega)
      have hm : ∀ y ∈ memFrom (insN (ofInts []) x.toNat) 0, y = x.toNat := fun y hy => by
        have := ((mem_memFrom hb).1 hy).2
        unfold insN at this
        rw [ofInts_nil] at this
        simpa using this
      match hq : memFrom (insN (ofInts []) x.toNat) 0 with
      | [] => simp
      | [_] => simp
      | a :: c :: t =>
        rw [hq] at hm hr
        have ha := hm a (by simp)
        have hc := hm c (by simp)
        have := (List.pairwise_cons.1 hr).1 c (by simp)
        omega
    · have : (memFrom (ofInts []) 0) = [] := by
        refine List.eq_nil_iff_forall_not_mem.2 fun y hy => ?_
        have := ((mem_memFrom (fun n h => by rw [ofInts_nil] at h; cases h)).1 hy).2
        rw [ofInts_nil] at this
        cases this
      rw [this]; simp
  omega

/-- A set and the list of its members, of a call's own. -/
structure St (w0 w : World) (b : Nat) (mo : Option Nat) (v : Value) (M : Nat → Bool) : Prop where
  set : SetAt w b mo M
  list : OwnInts w 0 v (memFrom M 0)
  fresh : w0.heap.size ≤ b ∧ ∀ m, mo = some m → w0.heap.size ≤ m
  below : Below w0.heap.size w0 w
theorem St.bound {w0 w : World} {b : Nat} {mo : Option Nat} {v : Value} {M : Nat → Bool} (s : St w0 w b mo v M) : ∀ n, M n = true → n < 2147483648 := s.set.map.bound
theorem St.next {w0 w w' : World} {b : Nat} {mo : Option Nat} {v : Value} {M : Nat → Bool} (s : St w0 w b mo v M) (hB : Below w.heap.size w w') : St w0 w' b mo v M :=
  ⟨s.set.below hB, s.list.below0 hB, s.fresh, below_new s.below hB⟩
/-- One more: the list first, then the set. -/
theorem St.add {w0 w w' : World} {b : Nat} {mo mo' : Option Nat} {v v' : Value} {M M' : Nat → Bool} (s : St w0 w b mo v M) (hl : OwnInts w 0 v' (memFrom M' 0)) (hs : SetAt w' b mo' M') (hn : Newer w mo mo') (ho : OnlyS b mo w w') : St w0 w' b mo' v' M' :=
  ⟨hs, hl.onlyS s.set ho, ⟨s.fresh.1, fun m hm => by
    rcases hn with rfl | ⟨m', e, h⟩
    · exact s.fresh.2 m hm
    · rw [e] at hm
      injection hm with hm
      have := s.below.size
      omega⟩, OnlyS.fresh s.below ho s.fresh.1 s.fresh.2⟩
end Go.Proofs.Ytbenfmhcpipehaa
