/-
  Texts of this claim, put together.
-/
import Derived.Test.YtiokbhbggpibpaaBRefBytesW
/-
  What the document's Read leans on.
-/
namespace Go.Proofs.Ytiokbhbggpibpaa
open Go Go.RowKit Go.Maps

/-- Does the t-th byte tell of the member i? -/
def matchF (n : Nat) (body : List Nat) (i t : Nat) : Bool := if n ≤ 32 then decide (body[t]?.getD 0 = i) else decide (t = i / 8) && (body[t]?.getD 0).testBit (i % 8)
def inF (n : Nat) (body : List Nat) (k i : Nat) : Bool := (List.range k).any (matchF n body i)
theorem inF_zero (n : Nat) (body : List Nat) (i : Nat) : inF n body 0 i = false := rfl
theorem inF_succ (n : Nat) (body : List Nat) (k i : Nat) : inF n body (k + 1) i = (inF n body k i || matchF n body i k) := by
  unfold inF
  rw [List.range_succ, List.any_append]
  simp
def newTo (up n : Nat) (body : List Nat) (long k : Nat) : List Nat := ((List.range k).filter (inF n body long)).map fun i => up * 256 + i
theorem newTo_zero (up n : Nat) (body : List Nat) (long : Nat) : newTo up n body long 0 = [] := rfl
theorem newTo_succ (up n : Nat) (body : List Nat) (long k : Nat) : newTo up n body long (k + 1) = newTo up n body long k ++ (if inF n body long k then [up * 256 + k] else []) := by
  unfold newTo
  rw [List.range_succ, List.filter_append, List.map_append]
  congr 1
  cases h : inF n body long k <;> simp [h]
theorem newTo_len (up n : Nat) (body : List Nat) (long k : Nat) : (newTo up n body long k).length ≤ k := by
  unfold newTo
  rw [List.length_map]
  exact Nat.le_trans (List.length_filter_le _ _) (by simp)
theorem newTo_lt {up n : Nat} {body : List Nat} {long k : Nat} (hu : up ≤ 8388607) (hk : k ≤ 256) : ∀ x ∈ newTo up n body long k, x < 2147483648 := fun x hx => by
  unfold newTo at hx
  obtain ⟨i, hi, rfl⟩ := List.mem_map.1 hx
  have := List.mem_range.1 (List.mem_filter.1 hi).1
  omega

theorem inF_at {l : List Nat} {u : Nat} {p : Nat → Bool} {r : List Nat} (h : SplitOk l u p r) {i : Nat} (hi : i < 256) : inF (l[3]?.getD 0 + 1) ((l.drop 4).take (kindSz (l[3]?.getD 0 + 1))) (kindSz (l[3]?.getD 0 + 1)) i = p i := by
  have hsz := h.size
  by_cases e : l[3]?.getD 0 + 1 ≤ 32
  · have hk : kindSz (l[3]?.getD 0 + 1) = l[3]?.getD 0 + 1 := by unfold kindSz; rw [if_pos e]
    rw [hk] at hsz ⊢
    have hp := contA_inj (h.list e).2 i hi
    rw [hp]
    have hlen : ((l.drop 4).take (l[3]?.getD 0 + 1)).length = l[3]?.getD 0 + 1 := by rw [List.length_take, List.length_drop]; omega
    generalize (l.drop 4).take (l[3]?.getD 0 + 1) = B at hlen
    unfold inF ofList
    rw [Bool.eq_iff_iff, List.any_eq_true]
    unfold matchF
    simp only [if_pos e, decide_eq_true_eq]
    constructor
    · rintro ⟨t, ht, hb⟩
      have htl : t < B.length := by rw [hlen]; exact List.mem_range.1 ht
      rw [List.getElem?_eq_getElem htl] at hb
      rw [← hb]
      exact List.getElem_mem htl
    · intro hm
      obtain ⟨t, ht⟩ := List.getElem?_of_mem hm
      have htl := (List.getElem?_eq_some_iff.1 ht).1
      exact ⟨t, List.mem_range.2 (by rw [← hlen]; exact htl), by rw [ht]; rfl⟩
  · have hk : kindSz (l[3]?.getD 0 + 1) = 32 := by unfold kindSz; rw [if_neg e]
    rw [hk] at hsz ⊢
    have hp := contA_inj (h.bits (by omega)).1 i hi
    rw [hp]
    generalize (l.drop 4).take 32 = B
    unfold inF bitsP ofBytes
    rw [Bool.eq_iff_iff, List.any_eq_true]
    unfold matchF
    simp only [if_neg e, Bool.and_eq_true, decide_eq_true_eq]
    constructor
    · rintro ⟨t, ht, e1, e2⟩
      rw [← e1]; exact e2
    · intro hm
      exact ⟨i / 8, List.mem_range.2 (by omega), rfl, hm⟩
theorem newTo_at {l : List Nat} {u : Nat} {N : Nat → Bool} {r : List Nat} (h : SplitOk l u (atU N u) r) : newTo u (l[3]?.getD 0 + 1) ((l.drop 4).take (kindSz (l[3]?.getD 0 + 1))) (kindSz (l[3]?.getD 0 + 1)) 256 = ofU N 0 u := by
  unfold newTo ofU lowsL
  have e1 : (List.range 256).filter (inF (l[3]?.getD 0 + 1) ((l.drop 4).take (kindSz (l[3]?.getD 0 + 1))) (kindSz (l[3]?.getD 0 + 1))) = (List.range 256).filter fun l => decide (0 - 256 * u ≤ l) && atU N u l :=
    List.filter_congr fun i hi => by
      rw [inF_at h (List.mem_range.1 hi)]
      simp
  rw [e1]
  refine List.map_congr_left fun i _ => ?_
  omega

/-- So far: whatever set has all these bytes has these members, and its bytes go on like this. -/
structure QD (x r : List UInt8) (out : List Nat) : Prop where
  all : ∀ N : Nat → Bool, (∀ n, N n = true → n < 2147483648) → bytesM N = x → ∃ i, i ≤ (uppers N 0).length ∧ r = restB N (uppers N 0) i ∧ out = ((uppers N 0).take i).flatMap (ofU N 0)
theorem QD.start (x : List UInt8) : QD x x [] := ⟨fun N _ h => ⟨0, Nat.zero_le _, by rw [← h]; rfl, rfl⟩⟩
/-- What is read next. -/
theorem QD.next {x r : List UInt8} {out : List Nat} (h : QD x r out) (hr : r ≠ []) {N : Nat → Bool} (hN : ∀ n, N n = true → n < 2147483648) (hx : bytesM N = x) :
    ∃ i u, i < (uppers N 0).length ∧ (uppers N 0)[i]? = some u ∧ out = ((uppers N 0).take i).flatMap (ofU N 0) ∧ SplitOk (toN r) u (atU N u) (toN (restB N (uppers N 0) (i + 1))) := by
  obtain ⟨i, hi, hl, ho⟩ := h.all N hN hx
  have hlt : i < (uppers N 0).length := by
    rcases Nat.lt_or_ge i (uppers N 0).length with h | h
    · exact h
    · have : restB N (uppers N 0) i = [] := by unfold restB; rw [List.drop_of_length_le h]; rfl
      exact absurd (hl.trans this) hr
  obtain ⟨u, hu⟩ : ∃ v, (uppers N 0)[i]? = some v := ⟨_, List.getElem?_eq_getElem hlt⟩
  have hm := mem_uppers.1 (List.mem_of_getElem? hu)
  refine ⟨i, u, hlt, hu, ho, ?_⟩
  have hok := split_part hm.1 hm.2.2 (restB N (uppers N 0) (i + 1))
  rw [← restB_step hu, ← hl] at hok
  exact hok
theorem QD.step {x r r' : List UInt8} {out : List Nat} (h : QD x r out) (hr : r ≠ []) (hrest : toN r' = (toN r).drop (4 + kindSz ((toN r)[3]?.getD 0 + 1))) :
    QD x r' (out ++ newTo ((toN r)[0]?.getD 0 * 65536 + (toN r)[1]?.getD 0 * 256 + (toN r)[2]?.getD 0) ((toN r)[3]?.getD 0 + 1) (((toN r).drop 4).take (kindSz ((toN r)[3]?.getD 0 + 1))) (kindSz ((toN r)[3]?.getD 0 + 1)) 256) := ⟨fun N hN hx => by
  obtain ⟨i, u, hlt, hu, ho, hok⟩ := h.next hr hN hx
  refine ⟨i + 1, hlt, toN_inj (hrest.trans hok.rest.symm), ?_⟩
  rw [take_snoc hu, List.flatMap_append, ← ho, ← hok.upper, newTo_at hok]
  simp⟩
theorem QD.done {x : List UInt8} {out : List Nat} (h : QD x [] out) {N : Nat → Bool} (hN : ∀ n, N n = true → n < 2147483648) (hx : bytesM N = x) : out = memFrom N 0 := by
  obtain ⟨i, hi, hl, ho⟩ := h.all N hN hx
  have hie : i = (uppers N 0).length := by
    rcases Nat.lt_or_ge i (uppers N 0).length with h | h
    · obtain ⟨u, hu⟩ : ∃ v, (uppers N 0)[i]? = some v := ⟨_, List.getElem?_eq_getElem h⟩
      rw [restB_step hu] at hl
      exact absurd hl.symm (partB_ne _ _ _)
    · omega
  rw [ho, hie, List.take_length]
  rfl
end Go.Proofs.Ytiokbhbggpibpaa
/-
  The document's Read.
-/
namespace Go.Proofs.Ytiokbhbggpibpaa
open Go Go.RowKit Go.Maps

theorem run_sidx (x : ByteArray) (i : Int) (k b : Nat) (hk : i = k) (hlt : k < x.size) (hb : (numsB x)[k]?.getD 0 = b) (W : World) : (Instr.index 9 (.string x) (.int .i64 i)).run Try.prog W = .ok (.int .u8 (b : Nat)) W := by
  subst hk
  rw [get_of x k hlt] at hb
  have h0 : (0 : Int) ≤ k := by omega
  have h1 : (k : Int) < x.size := by omega
  simp [Instr.index, asIntOf, Sem.run_bind, run_underlying Try.underlying9, Result.andThen, hlt, ← hb]
theorem bit_and (b s : Nat) (hb : b < 256) : (bits BinOp.and IntKind.u8 ((b : Int) / 2 ^ s) 1 == 1) = b.testBit s := by
  have e : ((b : Int) / 2 ^ s) = ((b / 2 ^ s : Nat) : Int) := by simp
  rw [e, and_one_u8 _ (Nat.lt_of_le_of_lt (Nat.div_le_self _ _) hb), Nat.testBit_eq_decide_div_mod_eq]
  rw [Bool.eq_iff_iff]
  simp
  omega
theorem rest_eq (x : ByteArray) (a k : Nat) : toN (x.data.toList.drop (a + 4 + k)) = ((numsB x).drop a).drop (4 + k) := by
  unfold toN numsB
  rw [List.drop_drop, List.map_drop, Nat.add_assoc]
theorem body_get (x : ByteArray) (a k j : Nat) (hj : j < k) : (((numsB x).drop (a + 4)).take k)[j]?.getD 0 = (numsB x)[a + 4 + j]?.getD 0 := by
  rw [List.getElem?_take_of_lt hj, List.getElem?_drop]
theorem toNat_succ (j : Nat) : (intOf (.int .i64 ((j : Int) + 1))).toNat = j + 1 := by simp [intOf]
theorem toNat_self (j : Nat) : (intOf (.int .i64 (j : Int))).toNat = j := by simp [intOf]
theorem OwnInts.drewN {w : World} {base : Nat} {v : Value} {L : List Nat} (h : OwnInts w base v L) (n : Nat) : OwnInts (w.drewN n) base v L := h

set_option maxRecDepth 100000 in
set_option maxHeartbeats 4000000 in
theorem qread_any (x : ByteArray) (hx : x.size ≤ 600) (w : World) :
    Calls Try.prog 39 #[.string x] w fun e w' => Below w.heap.size w w' ∧ ((∃ L v, e = .returned (.tuple #[v, .int .i64 0]) ∧ OwnInts w' w.heap.size v L ∧ L.Pairwise (· < ·) ∧ (∀ z ∈ L, z < 2147483648) ∧ bytesM (ofN L) = x.data.toList) ∨
      (e = .returned (.tuple #[.slice none 0 0, .int .i64 10]) ∧ ∀ N : Nat → Bool, (∀ n, N n = true → n < 2147483648) → bytesM N ≠ x.data.toList)) := by
  obtain ⟨i3, hi, hz0, hz1, hz2⟩ := info_parts info3
  have hqs := QD.start x.data.toList
  go_enter Try.func39, Try.ntmps39
  go_wp2_with fail
  go_loopw [4, 5] (fun ov y wr => ∃ (a : Nat) (out : List Nat), y = .int .i64 (a : Nat) ∧ a ≤ x.size ∧ OwnInts wr w.heap.size ov out ∧ (∀ z ∈ out, z < 2147483648) ∧ out.length ≤ 256 * a ∧ QD x.data.toList (x.data.toList.drop a) out ∧ Below w.heap.size w wr) (fun _ y _ => x.size - (intOf y).toNat)
  case atStart => exact ⟨0, [], rfl, Nat.zero_le _, World.ownsRow_nil _ _ _ _, by simp, by simp, hqs, Below.refl _ _⟩
  case round =>
    obtain ⟨a, out, rfl, ha, hown, hz, hol, hQ, hBr⟩ := hrel
    clear hqs
    have hxl : x.data.toList.length = x.size := rfl
    by_cases halt : a < x.size
    · have halti : (a : Int) < x.size := by omega
      have hrne : x.data.toList.drop a ≠ [] := fun e => by
        have := congrArg List.length e
        rw [List.length_drop, hxl] at this
        simp at this
        omega
      have HQ : Hid (QD x.data.toList (x.data.toList.drop a) out) := hQ
      have HRN : Hid (x.data.toList.drop a ≠ []) := hrne
      have hN : toN (x.data.toList.drop a) = (numsB x).drop a := by unfold toN numsB; rw [List.map_drop]
      have HN : Hid (toN (x.data.toList.drop a) = (numsB x).drop a) := hN
      have HZ : Hid (∀ z ∈ out, z < 2147483648) := hz
      clear hQ hrne hz hN
      by_cases h4 : x.size - a < 4
      · have h4i : (x.size : Int) - a < 4 := by omega
        have w0 : IntKind.i64.wrap ((x.size : Int) - a) = (x.size : Int) - a := by rw [IntKind.wrap_i64]; omega
        go_wp2_with fail
        go_ret2
        refine ⟨hBr, .inr ⟨rfl, fun N hN' hbx => ?_⟩⟩
        obtain ⟨_, _, _, _, _, hok⟩ := HQ.out.next HRN.out hN' hbx
        have := hok.len
        rw [HN.out, List.length_drop, numsB_len] at this
        omega
      · have h4i : ¬ (x.size : Int) - a < 4 := by omega
        have w0 : IntKind.i64.wrap ((x.size : Int) - a) = (x.size : Int) - a := by rw [IntKind.wrap_i64]; omega
        obtain ⟨b0, hb0⟩ : ∃ b, (numsB x)[a]?.getD 0 = b := ⟨_, rfl⟩
        obtain ⟨b1, hb1⟩ : ∃ b, (numsB x)[a + 1]?.getD 0 = b := ⟨_, rfl⟩
        obtain ⟨b2, hb2⟩ : ∃ b, (numsB x)[a + 2]?.getD 0 = b := ⟨_, rfl⟩
        obtain ⟨b3, hb3⟩ : ∃ b, (numsB x)[a + 3]?.getD 0 = b := ⟨_, rfl⟩
        have l0 : b0 < 256 := by rw [← hb0, numsB_toN]; exact toN_get_lt _ _
        have l1 : b1 < 256 := by rw [← hb1, numsB_toN]; exact toN_get_lt _ _
        have l2 : b2 < 256 := by rw [← hb2, numsB_toN]; exact toN_get_lt _ _
        have l3 : b3 < 256 := by rw [← hb3, numsB_toN]; exact toN_get_lt _ _
        have i0 := run_sidx x (a : Int) a b0 rfl (by omega) hb0
        have i1 := run_sidx x ((a : Int) + 1) (a + 1) b1 (by omega) (by omega) hb1
        have i2 := run_sidx x ((a : Int) + 2) (a + 2) b2 (by omega) (by omega) hb2
        have i33 := run_sidx x ((a : Int) + 3) (a + 3) b3 (by omega) (by omega) hb3
        obtain ⟨c0, hc0⟩ : ∃ c, b0 * 65536 = c := ⟨_, rfl⟩
        obtain ⟨c1, hc1⟩ : ∃ c, b1 * 256 = c := ⟨_, rfl⟩
        obtain ⟨c2, hc2⟩ : ∃ c, c0 + c1 = c := ⟨_, rfl⟩
        obtain ⟨up, hup⟩ : ∃ c, c2 + b2 = c := ⟨_, rfl⟩
        obtain ⟨n, hn'⟩ : ∃ c, b3 + 1 = c := ⟨_, rfl⟩
        have v0 : IntKind.i64.wrap (b0 : Int) = b0 := by rw [IntKind.wrap_i64]; omega
        have v1 : IntKind.i64.wrap (b1 : Int) = b1 := by rw [IntKind.wrap_i64]; omega
        have v2 : IntKind.i64.wrap (b2 : Int) = b2 := by rw [IntKind.wrap_i64]; omega
        have v3 : IntKind.i64.wrap (b3 : Int) = b3 := by rw [IntKind.wrap_i64]; omega
        have q0 : (b0 : Int) * 65536 = c0 := by omega
        have q1 : (b1 : Int) * 256 = c1 := by omega
        have q2 : (c0 : Int) + c1 = c2 := by omega
        have q3 : (c2 : Int) + b2 = up := by omega
        have q4 : (b3 : Int) + 1 = n := by omega
        have v4 : IntKind.i64.wrap ((b0 : Int) * 65536) = c0 := by rw [IntKind.wrap_i64]; omega
        have v5 : IntKind.i64.wrap ((b1 : Int) * 256) = c1 := by rw [IntKind.wrap_i64]; omega
        have v6 : IntKind.i64.wrap ((c0 : Int) + c1) = c2 := by rw [IntKind.wrap_i64]; omega
        have v7 : IntKind.i64.wrap ((c2 : Int) + b2) = up := by rw [IntKind.wrap_i64]; omega
        have v8 : IntKind.i64.wrap ((b3 : Int) + 1) = n := by rw [IntKind.wrap_i64]; omega
        have hup3 : up < 16777216 := by omega
        have hn256 : n ≤ 256 := by omega
        have hn1 : 1 ≤ n := by omega
        have g3 : (toN (x.data.toList.drop a))[3]?.getD 0 + 1 = n := by rw [HN.out, List.getElem?_drop, hb3]; exact hn'
        have gu : (toN (x.data.toList.drop a))[0]?.getD 0 * 65536 + (toN (x.data.toList.drop a))[1]?.getD 0 * 256 + (toN (x.data.toList.drop a))[2]?.getD 0 = up := by rw [HN.out, List.getElem?_drop, List.getElem?_drop, List.getElem?_drop, Nat.add_zero, hb0, hb1, hb2, hc0, hc1, hc2, hup]
        have hlow : ∀ N : Nat → Bool, (∀ n, N n = true → n < 2147483648) → bytesM N = x.data.toList → up ≤ 8388607 ∧ a + 4 + kindSz n ≤ x.size := fun N hN' hbx => by
          obtain ⟨_, u, _, _, _, hok⟩ := HQ.out.next HRN.out hN' hbx
          have k1 := hok.upper
          have k2 := hok.low
          have k3 := hok.size
          rw [gu] at k1
          rw [g3, HN.out, List.length_drop, numsB_len] at k3
          rw [NU_eq] at k2
          omega
        have hst : ∀ k, k = kindSz n → QD x.data.toList (x.data.toList.drop (a + 4 + k)) (out ++ newTo up n (((numsB x).drop (a + 4)).take k) k 256) := fun k hk => by
          subst hk
          have := HQ.out.step (r' := x.data.toList.drop (a + 4 + kindSz n)) HRN.out ((rest_eq x a (kindSz n)).trans (by rw [g3, HN.out]))
          rw [gu, g3, HN.out, List.drop_drop] at this
          exact this
        have HLOW : Hid (∀ N : Nat → Bool, (∀ n, N n = true → n < 2147483648) → bytesM N = x.data.toList → up ≤ 8388607 ∧ a + 4 + kindSz n ≤ x.size) := hlow
        have HST0 : Hid (∀ k, k = kindSz n → QD x.data.toList (x.data.toList.drop (a + 4 + k)) (out ++ newTo up n (((numsB x).drop (a + 4)).take k) k 256)) := hst
        clear hb0 hb1 hb2 hb3 hc0 hc1 hc2 hup hn' hlow hst g3 gu
        by_cases hn : n ≤ 32
        · have hni : ¬ (32 : Int) < n := by omega
          have hks : kindSz n = n := by unfold kindSz; rw [if_pos hn]
          have wz : IntKind.i64.wrap ((x.size : Int) - ((a : Int) + 4)) = (x.size : Int) - ((a : Int) + 4) := by rw [IntKind.wrap_i64]; omega
          by_cases hsh : x.size - (a + 4) < n
          · have hshi : (x.size : Int) - ((a : Int) + 4) < n := by omega
            go_wp2_with fail
            go_quiet (fail)
            refine then_normal ?_
            go_at_K
            go_wp2_with fail
            go_ret2
            refine ⟨below_drewN hBr nq, .inr ⟨rfl, fun N hN' hbx => ?_⟩⟩
            have := HLOW.out N hN' hbx
            rw [hks] at this
            omega
          · have hshi : ¬ (x.size : Int) - ((a : Int) + 4) < n := by omega
            by_cases hu7 : 8388607 < up
            · have hu7i : (8388607 : Int) < up := by omega
              go_wp2_with fail
              go_quiet (fail)
              refine then_normal ?_
              go_at_K
              go_wp2_with fail
              go_ret2
              refine ⟨below_drewN hBr nq, .inr ⟨rfl, fun N hN' hbx => ?_⟩⟩
              have := HLOW.out N hN' hbx
              rw [hks] at this
              omega
            · have hu7i : ¬ (8388607 : Int) < up := by omega
              have hkn : kindSz n = n := by unfold kindSz; rw [if_pos hn]
              have hfit : a + 4 + n ≤ x.size := by omega
              have hup2 : (up : Int) ≤ 8388607 := by omega
              go_wp2_with fail
              go_quiet (fail)
              refine then_normal ?_
              go_at_K
              go_wp2_with fail
              have HST : Hid (QD x.data.toList (x.data.toList.drop (a + 4 + n)) (out ++ newTo up n (((numsB x).drop (a + 4)).take n) n 256)) := HST0.out n hks.symm
              clear HST0 HLOW HQ HN HRN i0 i1 i2 i33 v0 v1 v2 v3 v4 v5 v6 v7 v8 q0 q1 q2 q3 q4 l0 l1 l2 l3
              obtain ⟨body, hbd⟩ : ∃ b, ((numsB x).drop (a + 4)).take n = b := ⟨_, rfl⟩
              rw [hbd] at HST
              have HBD : Hid (∀ j b, j < n → (numsB x)[a + 4 + j]?.getD 0 = b → body[j]?.getD 0 = b) := (by intro j b hj hb; rw [← hbd, body_get x a n j hj]; exact hb)
              clear hbd
              generalize wr = wo at *
              have hB0q := hBr
              go_loopw [4, 9] (fun ov y wq => ∃ i : Nat, y = .int .i64 (i : Nat) ∧ i ≤ 256 ∧ OwnInts wq w.heap.size ov (out ++ newTo up n body n i) ∧ Below w.heap.size w wq) (fun _ y _ => 256 - (intOf y).toNat)
              case atStart => exact ⟨0, rfl, by omega, by rw [newTo_zero, List.append_nil]; exact (hown.drewN nq), below_drewN hBr nq⟩
              case round =>
                obtain ⟨i, rfl, hi256, hownq, hBq⟩ := hrel
                have hszq := hBq.size
                by_cases hilt : i < 256
                · have hilti : (i : Int) < 256 := by omega
                  have hi0 : (0 : Int) ≤ i := by omega
                  generalize wr = wq at *
                  go_wp2_with fail
                  go_loopw [10, 11] (fun bv y wj => ∃ j : Nat, y = .int .i64 (j : Nat) ∧ j ≤ n ∧ bv = .bool (inF n body j i) ∧ wj = wq) (fun _ y _ => n - (intOf y).toNat)
                  case atStart => exact ⟨0, rfl, by omega, by rw [inF_zero], rfl⟩
                  case round =>
                    obtain ⟨j, rfl, hjl, rfl, rfl⟩ := hrel
                    by_cases hjlt : j < n
                    · have hjlti : (j : Int) < n := by omega
                      have hj0 : (0 : Int) ≤ j := by omega
                      obtain ⟨bb, hbbe⟩ : ∃ b, (numsB x)[a + 4 + j]?.getD 0 = b := ⟨_, rfl⟩
                      have hbb : bb < 256 := by rw [← hbbe, numsB_toN]; exact toN_get_lt _ _
                      have hidx := run_sidx x ((a : Int) + 4 + j) (a + 4 + j) bb (by omega) (by omega) hbbe
                      have HBB : Hid (body[j]?.getD 0 = bb) := HBD.out j bb hjlt hbbe
                      have wb : IntKind.i64.wrap (bb : Int) = bb := by rw [IntKind.wrap_i64]; omega
                      have wb2 : wrap64 (bb : Int) = bb := by unfold wrap64; omega
                      have hj1 : j + 1 ≤ n := hjlt
                      have hjm : n - (j + 1) < n - j := by omega
                      clear hbbe HBD HST HZ hownq hBq hszq hown hBr hB0q hol hxl
                      by_cases hin : inF n body j i = true
                      · rw [hin]
                        clear wb wb2 hidx HBB hbb
                        go_wp2_with fail
                        exact ⟨⟨j + 1, by simp, hj1, by rw [inF_succ, hin, Bool.true_or], by first | rfl | trivial⟩, by rw [toNat_succ, toNat_self]; exact hjm⟩
                      · have hin' : inF n body j i = false := by simpa using hin
                        rw [hin']
                        by_cases hbi : bb = i
                        · have hmt : matchF n body i j = true := by unfold matchF; rw [if_pos hn, HBB.out]; exact decide_eq_true hbi
                          have HM : Hid (inF n body (j + 1) i = true) := (by show inF n body (j + 1) i = true; rw [inF_succ, hmt, Bool.or_true])
                          clear hmt
                          subst hbi
                          go_wp2_with fail
                          exact ⟨⟨j + 1, by first | exact ⟨by simp, hj1, by rw [HM.out], trivial⟩ | exact ⟨by simp, hj1, by rw [HM.out], rfl⟩ | exact ⟨by simp, hj1, by rw [HM.out]⟩⟩, by rw [toNat_succ, toNat_self]; exact hjm⟩
                        · have hbq : ((bb : Int) == (i : Int)) = false := beq_eq_false_iff_ne.2 (fun e => hbi (Int.natCast_inj.1 e))
                          have hmt : matchF n body i j = false := by unfold matchF; rw [if_pos hn, HBB.out]; exact decide_eq_false hbi
                          have HM : Hid (inF n body (j + 1) i = false) := (by show inF n body (j + 1) i = false; rw [inF_succ, hmt, hin']; rfl)
                          clear hmt hbi
                          go_wp2_with fail
                          exact ⟨⟨j + 1, by first | exact ⟨by simp, hj1, by rw [HM.out], trivial⟩ | exact ⟨by simp, hj1, by rw [HM.out], rfl⟩ | exact ⟨by simp, hj1, by rw [HM.out]⟩⟩, by rw [toNat_succ, toNat_self]; exact hjm⟩
                    · obtain rfl : n = j := by omega
                      by_cases hin : inF n body n i = true
                      · rw [hin]
                        obtain ⟨nx, hnx⟩ : ∃ k, up * 256 + i = k := ⟨_, rfl⟩
                        have hnl := newTo_len up n body n i
                        have hZl : (out ++ newTo up n body n i).length ≤ 160000 := by rw [List.length_append]; omega
                        have hsn : out ++ newTo up n body n (i + 1) = out ++ newTo up n body n i ++ [nx] := by rw [newTo_succ, if_pos hin, hnx, List.append_assoc]
                        have HSN : Hid _ := hsn
                        obtain ⟨u256, hu256⟩ : ∃ k, up * 256 = k := ⟨_, rfl⟩
                        have e1 : (up : Int) * 256 = (u256 : Int) := by omega
                        have e2 : (u256 : Int) + i = (nx : Int) := by omega
                        have w1 : IntKind.i64.wrap ((up : Int) * 256) = (u256 : Int) := by rw [IntKind.wrap_i64]; omega
                        have w2 : IntKind.i64.wrap ((u256 : Int) + i) = (nx : Int) := by rw [IntKind.wrap_i64]; omega
                        generalize out ++ newTo up n body n i = Z at hownq hZl HSN
                        clear hsn hin hnx hu256
                        go_wp2_with (first
                          | (at_builtin; refine wpList_append_own _ rfl _ _ 22 rfl w.heap.size 3 i3 (.int .i64 0) 1 8 underInts hi hz0 hz1 hz2 rfl (by decide) _ _ _ rfl (hownq.alloc _) ⟨wr.heap.size, 0, none⟩ 1 1 [.int .i64 (nx : Nat)] rfl rfl (cells_new _ _ _) (by simp [Value.oneCell']) (by unfold maxLen; omega) (by omega) (by simp; omega) ?_; intro v6 w6 hown7 hgrow7 hnil7))
                        refine ⟨⟨i + 1, by simp, by omega, ?_, (hBq.alloc hszq _).grown hgrow7 (by simp; omega) (fun k e => (World.ownsRow.lt hownq k e).1)⟩, by simp [intOf]; omega⟩
                        rw [HSN.out]
                        unfold OwnInts
                        rw [List.length_append, List.map_append]
                        exact hown7
                      · have hin' : inF n body n i = false := by simpa using hin
                        rw [hin']
                        have HSN : Hid (out ++ newTo up n body n (i + 1) = out ++ newTo up n body n i) := (by show out ++ newTo up n body n (i + 1) = _; rw [newTo_succ, if_neg hin, List.append_nil])
                        go_wp2_with fail
                        exact ⟨⟨i + 1, by simp, by omega, by rw [HSN.out]; exact hownq, hBq⟩, by simp [intOf]; omega⟩
                · obtain rfl : i = 256 := by omega
                  have hq256 : ¬ ((256 : Nat) : Int) < 256 := by omega
                  go_wp2_with fail
                  refine ⟨⟨a + 4 + n, out ++ newTo up n body n 256, by simp, hfit, hownq, ?_, ?_, ?_, hBq⟩, by simp [intOf]; omega⟩
                  · intro z hz
                    rcases List.mem_append.1 hz with h | h
                    · exact HZ.out z h
                    · exact newTo_lt (by omega) (by omega) z h
                  · have := newTo_len up n body n 256
                    rw [List.length_append]
                    omega
                  · exact HST.out
        · have hni : (32 : Int) < n := by omega
          have hks : kindSz n = 32 := by unfold kindSz; rw [if_neg hn]
          have wz : IntKind.i64.wrap ((x.size : Int) - ((a : Int) + 4)) = (x.size : Int) - ((a : Int) + 4) := by rw [IntKind.wrap_i64]; omega
          by_cases hsh : x.size - (a + 4) < 32
          · have hshi : (x.size : Int) - ((a : Int) + 4) < 32 := by omega
            go_wp2_with fail
            go_quiet (fail)
            refine then_normal ?_
            go_at_K
            go_wp2_with fail
            go_ret2
            refine ⟨below_drewN hBr nq, .inr ⟨rfl, fun N hN' hbx => ?_⟩⟩
            have := HLOW.out N hN' hbx
            rw [hks] at this
            omega
          · have hshi : ¬ (x.size : Int) - ((a : Int) + 4) < 32 := by omega
            by_cases hu7 : 8388607 < up
            · have hu7i : (8388607 : Int) < up := by omega
              go_wp2_with fail
              go_quiet (fail)
              refine then_normal ?_
              go_at_K
              go_wp2_with fail
              go_ret2
              refine ⟨below_drewN hBr nq, .inr ⟨rfl, fun N hN' hbx => ?_⟩⟩
              have := HLOW.out N hN' hbx
              rw [hks] at this
              omega
            · have hu7i : ¬ (8388607 : Int) < up := by omega
              have hkn : kindSz n = 32 := by unfold kindSz; rw [if_neg hn]
              have hfit : a + 4 + 32 ≤ x.size := by omega
              have hup2 : (up : Int) ≤ 8388607 := by omega
              go_wp2_with fail
              go_quiet (fail)
              refine then_normal ?_
              go_at_K
              go_wp2_with fail
              have HST : Hid (QD x.data.toList (x.data.toList.drop (a + 4 + 32)) (out ++ newTo up n (((numsB x).drop (a + 4)).take 32) 32 256)) := HST0.out 32 hks.symm
              clear HST0 HLOW HQ HN HRN i0 i1 i2 i33 v0 v1 v2 v3 v4 v5 v6 v7 v8 q0 q1 q2 q3 q4 l0 l1 l2 l3
              obtain ⟨body, hbd⟩ : ∃ b, ((numsB x).drop (a + 4)).take 32 = b := ⟨_, rfl⟩
              rw [hbd] at HST
              have HBD : Hid (∀ j b, j < 32 → (numsB x)[a + 4 + j]?.getD 0 = b → body[j]?.getD 0 = b) := (by intro j b hj hb; rw [← hbd, body_get x a 32 j hj]; exact hb)
              clear hbd
              generalize wr = wo at *
              have hB0q := hBr
              go_loopw [4, 9] (fun ov y wq => ∃ i : Nat, y = .int .i64 (i : Nat) ∧ i ≤ 256 ∧ OwnInts wq w.heap.size ov (out ++ newTo up n body 32 i) ∧ Below w.heap.size w wq) (fun _ y _ => 256 - (intOf y).toNat)
              case atStart => exact ⟨0, rfl, by omega, by rw [newTo_zero, List.append_nil]; exact (hown.drewN nq), below_drewN hBr nq⟩
              case round =>
                obtain ⟨i, rfl, hi256, hownq, hBq⟩ := hrel
                have hszq := hBq.size
                by_cases hilt : i < 256
                · have hilti : (i : Int) < 256 := by omega
                  have hi0 : (0 : Int) ≤ i := by omega
                  generalize wr = wq at *
                  go_wp2_with fail
                  go_loopw [10, 11] (fun bv y wj => ∃ j : Nat, y = .int .i64 (j : Nat) ∧ j ≤ 32 ∧ bv = .bool (inF n body j i) ∧ wj = wq) (fun _ y _ => 32 - (intOf y).toNat)
                  case atStart => exact ⟨0, rfl, by omega, by rw [inF_zero], rfl⟩
                  case round =>
                    obtain ⟨j, rfl, hjl, rfl, rfl⟩ := hrel
                    by_cases hjlt : j < 32
                    · have hjlti : (j : Int) < 32 := by omega
                      have hj0 : (0 : Int) ≤ j := by omega
                      obtain ⟨bb, hbbe⟩ : ∃ b, (numsB x)[a + 4 + j]?.getD 0 = b := ⟨_, rfl⟩
                      have hbb : bb < 256 := by rw [← hbbe, numsB_toN]; exact toN_get_lt _ _
                      have hidx := run_sidx x ((a : Int) + 4 + j) (a + 4 + j) bb (by omega) (by omega) hbbe
                      have HBB : Hid (body[j]?.getD 0 = bb) := HBD.out j bb hjlt hbbe
                      have wb : IntKind.i64.wrap (bb : Int) = bb := by rw [IntKind.wrap_i64]; omega
                      have wb2 : wrap64 (bb : Int) = bb := by unfold wrap64; omega
                      have hj1 : j + 1 ≤ 32 := hjlt
                      have hjm : 32 - (j + 1) < 32 - j := by omega
                      clear hbbe HBD HST HZ hownq hBq hszq hown hBr hB0q hol hxl
                      by_cases hin : inF n body j i = true
                      · rw [hin]
                        clear wb wb2 hidx HBB hbb
                        go_wp2_with fail
                        exact ⟨⟨j + 1, by simp, hj1, by rw [inF_succ, hin, Bool.true_or], by first | rfl | trivial⟩, by rw [toNat_succ, toNat_self]; exact hjm⟩
                      · have hin' : inF n body j i = false := by simpa using hin
                        rw [hin']
                        by_cases hji : j = i / 8
                        · have hq : (i : Int) / 8 = (j : Int) := by omega
                          obtain ⟨s8, hs8⟩ : ∃ s, i % 8 = s := ⟨_, rfl⟩
                          have hq2 : (i : Int) % 8 = (s8 : Int) := by omega
                          have hmt : matchF n body i j = bb.testBit s8 := by unfold matchF; rw [if_neg hn, HBB.out, decide_eq_true hji, hs8]; rfl
                          have hs88 : s8 < 8 := by omega
                          have hbit := bit_and bb s8 hbb
                          have HM : Hid (inF n body (j + 1) i = bb.testBit s8) := (by show inF n body (j + 1) i = bb.testBit s8; rw [inF_succ, hmt, hin']; rfl)
                          clear hmt hji hs8
                          cases htb : bb.testBit s8 with
                          | true =>
                            rw [htb] at HM hbit
                            clear htb
                            go_wp2_with fail
                            exact ⟨⟨j + 1, by first | exact ⟨by simp, hj1, by rw [HM.out], trivial⟩ | exact ⟨by simp, hj1, by rw [HM.out], rfl⟩ | exact ⟨by simp, hj1, by rw [HM.out]⟩⟩, by rw [toNat_succ, toNat_self]; exact hjm⟩
                          | false =>
                            rw [htb] at HM hbit
                            clear htb
                            go_wp2_with fail
                            exact ⟨⟨j + 1, by first | exact ⟨by simp, hj1, by rw [HM.out], trivial⟩ | exact ⟨by simp, hj1, by rw [HM.out], rfl⟩ | exact ⟨by simp, hj1, by rw [HM.out]⟩⟩, by rw [toNat_succ, toNat_self]; exact hjm⟩
                        · obtain ⟨t8, ht8⟩ : ∃ t, i / 8 = t := ⟨_, rfl⟩
                          have hq : (i : Int) / 8 = (t8 : Int) := by omega
                          have hbq : ((j : Int) == (t8 : Int)) = false := beq_eq_false_iff_ne.2 (fun e => hji ((Int.natCast_inj.1 e).trans ht8.symm))
                          have hmt : matchF n body i j = false := by unfold matchF; rw [if_neg hn, decide_eq_false hji]; rfl
                          have HM : Hid (inF n body (j + 1) i = false) := (by show inF n body (j + 1) i = false; rw [inF_succ, hmt, hin']; rfl)
                          clear hmt hji ht8
                          go_wp2_with fail
                          exact ⟨⟨j + 1, by first | exact ⟨by simp, hj1, by rw [HM.out], trivial⟩ | exact ⟨by simp, hj1, by rw [HM.out], rfl⟩ | exact ⟨by simp, hj1, by rw [HM.out]⟩⟩, by rw [toNat_succ, toNat_self]; exact hjm⟩
                    · obtain rfl : 32 = j := by omega
                      by_cases hin : inF n body 32 i = true
                      · rw [hin]
                        obtain ⟨nx, hnx⟩ : ∃ k, up * 256 + i = k := ⟨_, rfl⟩
                        have hnl := newTo_len up n body 32 i
                        have hZl : (out ++ newTo up n body 32 i).length ≤ 160000 := by rw [List.length_append]; omega
                        have hsn : out ++ newTo up n body 32 (i + 1) = out ++ newTo up n body 32 i ++ [nx] := by rw [newTo_succ, if_pos hin, hnx, List.append_assoc]
                        have HSN : Hid _ := hsn
                        obtain ⟨u256, hu256⟩ : ∃ k, up * 256 = k := ⟨_, rfl⟩
                        have e1 : (up : Int) * 256 = (u256 : Int) := by omega
                        have e2 : (u256 : Int) + i = (nx : Int) := by omega
                        have w1 : IntKind.i64.wrap ((up : Int) * 256) = (u256 : Int) := by rw [IntKind.wrap_i64]; omega
                        have w2 : IntKind.i64.wrap ((u256 : Int) + i) = (nx : Int) := by rw [IntKind.wrap_i64]; omega
                        generalize out ++ newTo up n body 32 i = Z at hownq hZl HSN
                        clear hsn hin hnx hu256
                        go_wp2_with (first
                          | (at_builtin; refine wpList_append_own _ rfl _ _ 22 rfl w.heap.size 3 i3 (.int .i64 0) 1 8 underInts hi hz0 hz1 hz2 rfl (by decide) _ _ _ rfl (hownq.alloc _) ⟨wr.heap.size, 0, none⟩ 1 1 [.int .i64 (nx : Nat)] rfl rfl (cells_new _ _ _) (by simp [Value.oneCell']) (by unfold maxLen; omega) (by omega) (by simp; omega) ?_; intro v6 w6 hown7 hgrow7 hnil7))
                        refine ⟨⟨i + 1, by simp, by omega, ?_, (hBq.alloc hszq _).grown hgrow7 (by simp; omega) (fun k e => (World.ownsRow.lt hownq k e).1)⟩, by simp [intOf]; omega⟩
                        rw [HSN.out]
                        unfold OwnInts
                        rw [List.length_append, List.map_append]
                        exact hown7
                      · have hin' : inF n body 32 i = false := by simpa using hin
                        rw [hin']
                        have HSN : Hid (out ++ newTo up n body 32 (i + 1) = out ++ newTo up n body 32 i) := (by show out ++ newTo up n body 32 (i + 1) = _; rw [newTo_succ, if_neg hin, List.append_nil])
                        go_wp2_with fail
                        exact ⟨⟨i + 1, by simp, by omega, by rw [HSN.out]; exact hownq, hBq⟩, by simp [intOf]; omega⟩
                · obtain rfl : i = 256 := by omega
                  have hq256 : ¬ ((256 : Nat) : Int) < 256 := by omega
                  go_wp2_with fail
                  refine ⟨⟨a + 4 + 32, out ++ newTo up n body 32 256, by simp, hfit, hownq, ?_, ?_, ?_, hBq⟩, by simp [intOf]; omega⟩
                  · intro z hz
                    rcases List.mem_append.1 hz with h | h
                    · exact HZ.out z h
                    · exact newTo_lt (by omega) (by omega) z h
                  · have := newTo_len up n body 32 256
                    rw [List.length_append]
                    omega
                  · exact HST.out
    · obtain rfl : x.size = a := by omega
      have hali : ¬ (x.size : Int) < x.size := by omega
      have hdr : x.data.toList.drop x.size = [] := List.drop_of_length_le (by rw [hxl]; exact Nat.le_refl _)
      rw [hdr] at hQ
      have HD : Hid (∀ N : Nat → Bool, (∀ n, N n = true → n < 2147483648) → bytesM N = x.data.toList → out = memFrom N 0) := fun N hN hb => hQ.done hN hb
      have HZ : Hid (∀ z ∈ out, z < 2147483648) := hz
      have hol2 : out.length ≤ 160000 := by omega
      obtain ⟨pL, cL, rfl, hia⟩ := hown.intsAt
      clear hQ hz hdr
      go_wp2_with fail
      generalize wr = wo at *
      go_loopw [12] (fun y wz => ∃ k : Nat, y = .int .i64 (k : Nat) ∧ 1 ≤ k ∧ (k ≤ out.length ∨ k = 1) ∧ Rises (out.take k) ∧ Below wo.heap.size wo wz) (fun y _ => out.length - (intOf y).toNat)
      case atStart => exact ⟨1, rfl, Nat.le_refl _, .inr rfl, rises_one, Below.refl _ _⟩
      case round =>
        obtain ⟨k, rfl, hk1, hkl, hrs, hBz⟩ := hrel
        have hBwz := hBr.trans (hBz.mono hBr.size)
        by_cases hk : k < out.length
        · have hki : (k : Int) < out.length := by omega
          have hk0 : (0 : Int) ≤ k := by omega
          obtain ⟨k', hk'⟩ : ∃ k', k = k' + 1 := ⟨k - 1, by omega⟩
          have hw1 : IntKind.i64.wrap ((k : Int) - 1) = (k' : Int) := by rw [show (k : Int) - 1 = k' by omega]; rw [IntKind.wrap_i64]; omega
          have hk'0 : (0 : Int) ≤ k' := by omega
          have hk'i : (k' : Int) < out.length := by omega
          obtain ⟨x1, hx1⟩ : ∃ x, out[k]? = some x := ⟨_, List.getElem?_eq_getElem hk⟩
          obtain ⟨x0, hx0⟩ : ∃ x, out[k']? = some x := ⟨_, List.getElem?_eq_getElem (by omega)⟩
          obtain ⟨g, o, rfl, hcell⟩ := (hia.below hBz).nat (by omega)
          have c1 := hcell wr (Below.refl _ _) k x1 hx1
          have c0 := hcell wr (Below.refl _ _) k' x0 hx0
          have hx1' : out[k' + 1]? = some x1 := by rw [← hk']; exact hx1
          have hj1 : k + 1 ≤ out.length := hk
          have hjm : out.length - (k + 1) < out.length - k := by omega
          clear hcell
          by_cases hle : x1 ≤ x0
          · have hlei : (x1 : Int) ≤ x0 := by omega
            have HNR : Hid (¬ Rises out) := rises_not hx0 hx1' hle
            clear hx0 hx1 hx1' hk' hle
            go_wp2_with fail
            go_quiet (fail)
            refine then_normal ?_
            go_at_K
            go_wp2_with fail
            go_ret2
            refine ⟨below_drewN hBwz nq, .inr ⟨rfl, fun N hN hb => ?_⟩⟩
            have e := HD.out N hN hb
            rw [e] at HNR
            exact HNR.out (memFrom_rises N 0)
          · have hlei : ¬ (x1 : Int) ≤ x0 := by omega
            have HRS : Hid (Rises (out.take (k + 1))) := (by show Rises (out.take (k + 1)); rw [hk']; exact rises_step hx0 hx1' (by rw [← hk']; exact hrs) (by omega))
            clear hx0 hx1 hx1' hk' hle hrs
            go_wp2_with fail
            go_quiet (fail)
            refine then_normal ?_
            go_at_K
            go_wp2_with fail
            exact ⟨⟨k + 1, by simp, by omega, .inl hj1, HRS.out, below_drewN hBz nq⟩, by rw [toNat_succ, toNat_self]; exact hjm⟩
        · have hki : ¬ (k : Int) < out.length := by omega
          have hrise : out.Pairwise (· < ·) := by
            have := hrs
            rw [List.take_of_length_le (by omega)] at this
            exact this
          have hqb := qbytes_any (hia.below hBz) hrise HZ.out (by omega)
          have HRI : Hid (out.Pairwise (· < ·)) := hrise
          have HOW : Hid (OwnInts wr w.heap.size (.slice pL out.length cL) out) := ownsRow_below hBz hown
          have HDY : Hid (∀ N : Nat → Bool, (∀ n, N n = true → n < 2147483648) → bytesM N = x.data.toList → bytesM (ofN out) = x.data.toList) := fun N hN hb => by
            rw [HD.out N hN hb, ofN_mem hN]; exact hb
          have HEQ0 : ∃ Y, bytesM (ofN out) = Y := ⟨_, rfl⟩
          obtain ⟨Y, hY⟩ := HEQ0
          rw [hY] at hqb HDY
          have HYY : Hid (bytesM (ofN out) = Y) := hY
          obtain ⟨X, hX⟩ : ∃ X : List UInt8, x = ⟨X.toArray⟩ := ⟨x.data.toList, by obtain ⟨⟨X⟩⟩ := x; rfl⟩
          have hXl : x.data.toList = X := by rw [hX]
          rw [hXl] at HDY
          have HXL : Hid (x.data.toList = X) := hXl
          have HXX : Hid (x = ⟨X.toArray⟩) := hX
          clear hrise hrs hY hown hia hXl
          rw [hX]
          by_cases hYX : Y = X
          · subst hYX
            clear hX
            go_wp2_with (first
              | (go_at_call 36; refine hqb.mono ?_; rintro e w8 ⟨rfl, hB8⟩))
            go_ret2
            exact ⟨hBwz.trans (hB8.mono hBwz.size), .inl ⟨out, _, rfl, ownsRow_below hB8 HOW.out, HRI.out, HZ.out, HYY.out.trans HXL.out.symm⟩⟩
          · have hbq : (Y == X) = false := beq_eq_false_iff_ne.2 hYX
            have HNE : Hid (¬ Y = X) := hYX
            clear hYX hX
            go_wp2_with (first
              | (go_at_call 36; refine hqb.mono ?_; rintro e w8 ⟨rfl, hB8⟩))
            go_ret2
            exact ⟨hBwz.trans (hB8.mono hBwz.size), .inr ⟨rfl, fun N hN hb => HNE.out (HDY.out N hN (hb.trans HXL.out))⟩⟩
end Go.Proofs.Ytiokbhbggpibpaa
