/-
  Bytes that are read container by container are the bytes of the set that comes of it.
-/
import Derived.Test.YtiokbhbggpibpaaBGB
namespace Go.Proofs.Ytiokbhbggpibpaa
open Go Go.RowKit Go.Maps

theorem toN_lt (l : List UInt8) : ∀ x ∈ toN l, x < 256 := fun x hx => by
  unfold toN at hx
  obtain ⟨b, _, rfl⟩ := List.mem_map.1 hx
  exact b.toNat_lt
theorem toN_get_lt (l : List UInt8) (i : Nat) : (toN l)[i]?.getD 0 < 256 := by
  cases h : (toN l)[i]? with
  | none => simp
  | some x => exact toN_lt l x (List.mem_of_getElem? h)
theorem lows_ofList {L : List Nat} (hr : Rises L) (hb : ∀ x ∈ L, x < 256) : lowsL (ofList L) 0 = L :=
  eq_of_rising (lowsL_rises _ _) hr fun x => by
    rw [mem_lowsL]
    unfold ofList
    simp
    exact fun h => hb x h
theorem lows_congr {p q : Nat → Bool} (h : contA p = contA q) : lowsL p 0 = lowsL q 0 := by
  unfold lowsL
  refine List.filter_congr fun l hl => ?_
  rw [contA_inj h l (List.mem_range.1 hl)]
theorem bt_cont {p q : Nat → Bool} (h : contA p = contA q) (i : Nat) (hi : i < 32) : bt p i = bt q i := by
  have h1 := contA_get p i hi
  rw [h, contA_get q i hi] at h1
  injection h1 with h1
  injection h1 with _ h1
  omega
theorem bodyB_congr {p q : Nat → Bool} (h : contA p = contA q) : bodyB p = bodyB q := by
  unfold bodyB lowB bitB
  rw [cnt_of_cont h, lows_congr h]
  split
  · rfl
  · exact List.map_congr_left fun i hi => by rw [bt_cont h i (List.mem_range.1 hi)]
theorem partB_congr {M N : Nat → Bool} {u : Nat} (h : contA (atU M u) = contA (atU N u)) : partB M u = partB N u := by
  unfold partB
  rw [bodyB_congr h, cnt_of_cont h]

theorem SplitOk.cnt {l : List UInt8} {u : Nat} {p : Nat → Bool} {r : List Nat} (h : SplitOk (toN l) u p r) : cnt p = (toN l)[3]?.getD 0 + 1 := by
  by_cases e : (toN l)[3]?.getD 0 + 1 ≤ 32
  · obtain ⟨h1, h2⟩ := h.list e
    rw [cnt_of_cont h2, cnt_lows, lows_ofList h1 (fun x hx => toN_lt l x (List.mem_of_mem_drop (List.mem_of_mem_take hx))), List.length_take, List.length_drop]
    have := h.size
    unfold kindSz at this
    rw [if_pos e] at this
    omega
  · exact (h.bits (by omega)).2
theorem SplitOk.some {l : List UInt8} {u : Nat} {p : Nat → Bool} {r : List Nat} (h : SplitOk (toN l) u p r) : ∃ i, i < 256 ∧ p i = true := by
  have := h.cnt
  have h0 : 0 < Proofs.Ytiokbhbggpibpaa.cnt p := by omega
  unfold Proofs.Ytiokbhbggpibpaa.cnt at h0
  obtain ⟨i, hi, hp⟩ := List.countP_pos_iff.1 h0
  exact ⟨i, List.mem_range.1 hi, hp⟩
theorem list4 (l : List Nat) (h : 4 ≤ l.length) : l = [l[0]?.getD 0, l[1]?.getD 0, l[2]?.getD 0, l[3]?.getD 0] ++ l.drop 4 := by
  match l, h with
  | a :: b :: c :: d :: t, _ => rfl
theorem split_bytes {l r : List UInt8} {u : Nat} {p : Nat → Bool} (h : SplitOk (toN l) u p (toN r)) {M : Nat → Bool} (hp : contA (atU M u) = contA p) : l = partB M u ++ r := by
  refine toN_inj ?_
  have hc := h.cnt
  have h0 := toN_get_lt l 0
  have h1 := toN_get_lt l 1
  have h2 := toN_get_lt l 2
  have h3 := toN_get_lt l 3
  have hu := h.upper
  have hsz := h.size
  have hlen := h.len
  have hrest := h.rest
  have hbd : toN (bodyB (atU M u)) = ((toN l).drop 4).take (kindSz ((toN l)[3]?.getD 0 + 1)) := by
    rw [bodyB_congr hp]
    unfold bodyB kindSz
    rw [hc]
    by_cases e : (toN l)[3]?.getD 0 + 1 ≤ 32
    · rw [if_pos e, if_pos e, toN_lowB, lows_congr (h.list e).2]
      exact lows_ofList (h.list e).1 (fun x hx => toN_lt l x (List.mem_of_mem_drop (List.mem_of_mem_take hx)))
    · rw [if_neg e, if_neg e, toN_bitB]
      have hb := (h.bits (by omega)).1
      unfold kindSz at hsz
      rw [if_neg e] at hsz
      refine List.ext_getElem? fun i => ?_
      by_cases hi : i < 32
      · rw [List.getElem?_map, List.getElem?_range hi, Option.map_some, bt_cont hb i hi]
        unfold bitsP
        have hlt : i < (((toN l).drop 4).take 32).length := by rw [List.length_take, List.length_drop]; omega
        have hv : (((toN l).drop 4).take 32)[i]?.getD 0 < 256 := by
          rw [List.getElem?_eq_getElem hlt]
          exact toN_lt l _ (List.mem_of_mem_drop (List.mem_of_mem_take (List.getElem_mem hlt)))
        rw [bt_ofBytes (fun i => (((toN l).drop 4).take 32)[i]?.getD 0) i hv, List.getElem?_eq_getElem hlt]
        rfl
      · rw [List.getElem?_eq_none (by simp; omega), List.getElem?_eq_none (by rw [List.length_take]; omega)]
  rw [toN_append]
  have hpn : toN (partB M u) = [(toN l)[0]?.getD 0, (toN l)[1]?.getD 0, (toN l)[2]?.getD 0, (toN l)[3]?.getD 0] ++ ((toN l).drop 4).take (kindSz ((toN l)[3]?.getD 0 + 1)) := by
    unfold partB
    rw [toN_append, hbd, cnt_of_cont hp, hc]
    congr 1
    simp [toN] at h0 h1 h2 h3 hu ⊢
    omega
  rw [hpn, hrest, List.append_assoc, ← List.drop_drop, List.take_append_drop]
  exact list4 _ hlen

theorem uppers_setU {M : Nat → Bool} {u : Nat} {p : Nat → Bool} (hu : u < NU) (ht : ∀ n, M n = true → n / 256 < u) (hp : ∃ i, i < 256 ∧ p i = true) : uppers (setU M u p) 0 = uppers M 0 ++ [u] := by
  refine eq_of_rising (uppers_rises _ _) ?_ fun v => ?_
  · refine List.pairwise_append.2 ⟨uppers_rises _ _, List.pairwise_singleton _ _, fun a ha b hb => ?_⟩
    obtain ⟨_, _, l, hl, hm⟩ := mem_uppers.1 ha
    have := ht _ hm
    rw [List.mem_singleton.1 hb]
    omega
  · rw [List.mem_append, mem_uppers, mem_uppers, List.mem_singleton]
    constructor
    · rintro ⟨h1, h2, l, hl, hm⟩
      by_cases e : v = u
      · exact .inr e
      · refine .inl ⟨h1, h2, l, hl, ?_⟩
        unfold setU at hm
        rw [if_neg (by omega)] at hm
        exact hm
    · rintro (⟨h1, h2, l, hl, hm⟩ | rfl)
      · refine ⟨h1, h2, l, hl, ?_⟩
        have := ht _ hm
        unfold setU
        rw [if_neg (by omega)]
        exact hm
      · obtain ⟨i, hi, hpi⟩ := hp
        refine ⟨hu, Nat.zero_le _, i, hi, ?_⟩
        unfold setU
        rw [if_pos (by omega), show (256 * v + i) % 256 = i by omega]
        exact hpi
theorem flat_congr {α β : Type} {f g : α → List β} : ∀ (l : List α), (∀ x ∈ l, f x = g x) → l.flatMap f = l.flatMap g
  | [], _ => rfl
  | x :: l, h => by rw [List.flatMap_cons, List.flatMap_cons, h x (by simp), flat_congr l fun y hy => h y (by simp [hy])]
theorem bytesM_setU {M : Nat → Bool} {u : Nat} {p : Nat → Bool} (hu : u < NU) (ht : ∀ n, M n = true → n / 256 < u) (hp : ∃ i, i < 256 ∧ p i = true) : bytesM (setU M u p) = bytesM M ++ partB (setU M u p) u := by
  unfold bytesM
  rw [uppers_setU hu ht hp, List.flatMap_append]
  have e1 : (uppers M 0).flatMap (partB (setU M u p)) = (uppers M 0).flatMap (partB M) := flat_congr _ fun v hv => by
    obtain ⟨_, _, l, hl, hm⟩ := mem_uppers.1 hv
    have := ht _ hm
    exact partB_congr (contA_congr (atU_setU_other M u v p (by omega)))
  rw [e1, List.flatMap_cons, List.flatMap_nil, List.append_nil]

/-- So far: what stands ahead is the bytes of the set; all its upper parts are at most so great; whatever set has all these bytes has been read so far. -/
structure RD (x r : List UInt8) (t : Int) (M : Nat → Bool) : Prop where
  pre : bytesM M ++ r = x
  top : ∀ n, M n = true → ((n / 256 : Nat) : Int) ≤ t
  all : ∀ N : Nat → Bool, (∀ n, N n = true → n < 2147483648) → bytesM N = x → ∃ i, i ≤ (uppers N 0).length ∧ r = restB N (uppers N 0) i ∧ t = ahead (uppers N 0) i

theorem uppers_none : uppers (fun _ => false) 0 = [] := by
  refine List.eq_nil_iff_forall_not_mem.2 fun u hu => ?_
  obtain ⟨_, _, l, _, h⟩ := mem_uppers.1 hu
  exact Bool.noConfusion h
theorem bytesM_none : bytesM (fun _ => false) = [] := by
  unfold bytesM
  generalize hu : uppers (fun _ => false) 0 = us
  rw [uppers_none] at hu
  rw [← hu]
  exact List.flatMap_nil
theorem RD.start (x : List UInt8) : RD x x (-1) (fun _ => false) :=
  ⟨by rw [bytesM_none]; rfl, fun _ h => (by cases h), fun N _ h => ⟨0, Nat.zero_le _, by rw [← h]; rfl, rfl⟩⟩
theorem RD.step {x l r : List UInt8} {t : Int} {M : Nat → Bool} {u : Nat} {p : Nat → Bool} (h : RD x l t M) (hs : SplitOk (toN l) u p (toN r)) (ht : t < u) : RD x r u (setU M u p) where
  pre := by
    rw [bytesM_setU hs.low (fun n hn => by have := h.top n hn; omega) hs.some, List.append_assoc, ← split_bytes hs (contA_congr (atU_setU_same M u p))]
    exact h.pre
  top := fun n hn => by
    unfold setU at hn
    by_cases e : n / 256 = u
    · omega
    · rw [if_neg e] at hn
      have := h.top n hn
      omega
  all := fun N hN hx => by
    obtain ⟨i, hi, hl, hti⟩ := h.all N hN hx
    have hlt : i < (uppers N 0).length := by
      rcases Nat.lt_or_ge i (uppers N 0).length with h | h
      · exact h
      · have : restB N (uppers N 0) i = [] := by unfold restB; rw [List.drop_of_length_le h]; rfl
        rw [this] at hl
        have := hs.len
        rw [hl] at this
        simp [toN] at this
    obtain ⟨v, hv⟩ : ∃ v, (uppers N 0)[i]? = some v := ⟨_, List.getElem?_eq_getElem hlt⟩
    have hm := mem_uppers.1 (List.mem_of_getElem? hv)
    have hst := restB_step (M := N) hv
    have hok := split_part hm.1 hm.2.2 (restB N (uppers N 0) (i + 1))
    rw [← hst, ← hl] at hok
    obtain ⟨e1, _, e3⟩ := hs.one hok
    exact ⟨i + 1, hlt, toN_inj e3, by rw [ahead_next hv, e1]⟩
theorem RD.bad {x l : List UInt8} {t : Int} {M : Nat → Bool} (h : RD x l t M) (hl : l ≠ []) (hb : ∀ u p r, SplitOk (toN l) u p r → (u : Int) ≤ t) : ∀ N : Nat → Bool, (∀ n, N n = true → n < 2147483648) → bytesM N ≠ x := fun N hN hx => by
  obtain ⟨i, hi, hli, hti⟩ := h.all N hN hx
  have hlt : i < (uppers N 0).length := by
    rcases Nat.lt_or_ge i (uppers N 0).length with h | h
    · exact h
    · have : restB N (uppers N 0) i = [] := by unfold restB; rw [List.drop_of_length_le h]; rfl
      exact absurd (hli.trans this) hl
  obtain ⟨v, hv⟩ : ∃ v, (uppers N 0)[i]? = some v := ⟨_, List.getElem?_eq_getElem hlt⟩
  have hm := mem_uppers.1 (List.mem_of_getElem? hv)
  have hst := restB_step (M := N) hv
  have hok := split_part hm.1 hm.2.2 (restB N (uppers N 0) (i + 1))
  rw [← hst, ← hli] at hok
  have h1 := hb _ _ _ hok
  have h2 := ahead_lt (uppers_rises N 0) hv
  omega
theorem RD.done {x : List UInt8} {t : Int} {M : Nat → Bool} (h : RD x [] t M) : bytesM M = x := by
  have := h.pre
  rwa [List.append_nil] at this
end Go.Proofs.Ytiokbhbggpibpaa
