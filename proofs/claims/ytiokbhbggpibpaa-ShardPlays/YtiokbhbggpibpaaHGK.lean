/-
  Texts of this claim, put together.
-/
import Derived.Test.YtiokbhbggpibpaaHGI
import Derived.Laws.Pointers
/-
  The document's Join, Append and Cut.
-/
namespace Go.Proofs.Ytiokbhbggpibpaa
open Go Go.RowKit

theorem rise_adj : ∀ l : List Nat, (∀ (j : Nat) x y, l[j]? = some x → l[j + 1]? = some y → x < y) → l.Pairwise (· < ·)
  | [], _ => List.Pairwise.nil
  | [x], _ => List.pairwise_singleton _ _
  | x :: y :: l, h => by
    have ih := rise_adj (y :: l) (fun j a b ha hb => h (j + 1) a b (by simpa using ha) (by simpa using hb))
    have hxy := h 0 x y rfl rfl
    refine List.Pairwise.cons (fun z hz => ?_) ih
    rcases List.mem_cons.1 hz with rfl | hz
    · exact hxy
    · exact Nat.lt_trans hxy ((List.pairwise_cons.1 ih).1 z hz)
/-- What was read of the first chunks. -/
def RdOk (L : List Ck) (ms : List (List Nat)) : Prop := ∀ (j : Nat) p, ms[j]? = some p → ∃ u, L[j]? = some (u, dataOf p) ∧ Nums p ∧ p.length ≤ 64
theorem RdOk.len {L : List Ck} : ∀ {ms : List (List Nat)}, RdOk L ms → ms.flatten.length ≤ 64 * ms.length := fun {ms} h => by
  have : ∀ ms : List (List Nat), (∀ p ∈ ms, p.length ≤ 64) → ms.flatten.length ≤ 64 * ms.length := fun ms => by
    induction ms with
    | nil => simp
    | cons a l ih =>
      intro h
      have h1 := ih (fun p hp => h p (List.mem_cons_of_mem _ hp))
      have h2 := h a (List.mem_cons_self ..)
      rw [List.flatten_cons, List.length_append, List.length_cons]
      omega
  refine this ms fun p hp => ?_
  obtain ⟨j, hj⟩ := List.mem_iff_getElem?.1 hp
  exact (h j p hj).choose_spec.2.2
theorem RdOk.bound {L : List Ck} {ms : List (List Nat)} (h : RdOk L ms) : ∀ x ∈ ms.flatten, x < 2147483648 := fun x hx => by
  obtain ⟨p, hp, hx⟩ := List.mem_flatten.1 hx
  obtain ⟨j, hj⟩ := List.mem_iff_getElem?.1 hp
  exact (h j p hj).choose_spec.2.1.bound x hx
theorem RdOk.snoc {L : List Ck} {ms : List (List Nat)} {u : Int} {p : List Nat} (h : RdOk L ms) (hu : L[ms.length]? = some (u, dataOf p)) (hp : Nums p) (hl : p.length ≤ 64) : RdOk L (ms ++ [p]) := fun j q hq => by
  by_cases hj : j < ms.length
  · rw [List.getElem?_append_left hj] at hq
    exact h j q hq
  · rw [List.getElem?_append_right (by omega)] at hq
    have e : j - ms.length = 0 := by
      have := (List.getElem?_eq_some_iff.1 hq).1
      simp at this
      omega
    rw [e] at hq
    simp at hq
    subst hq
    exact ⟨u, by rw [show j = ms.length by omega]; exact hu, hp, hl⟩
theorem RdOk.good {L : List Ck} {ms ps : List (List Nat)} (h : RdOk L ms) (hl : ms.length = L.length) (hg : Good ps) (hL : L = chk ps) : ms = ps := by
  subst hL
  rw [chk_len] at hl
  refine List.ext_getElem? fun j => ?_
  by_cases hj : j < ms.length
  · obtain ⟨p, hp⟩ : ∃ p, ms[j]? = some p := ⟨_, List.getElem?_eq_getElem hj⟩
    obtain ⟨u, h1, h2, _⟩ := h j p hp
    obtain ⟨q, h3, h4⟩ := chk_at h1
    rw [hp, h3, dataOf_inj h2 (hg.at h3).1 h4]
  · rw [List.getElem?_eq_none (by omega), List.getElem?_eq_none (by omega)]
theorem bad_read {L : List Ck} {i : Nat} {u : Int} {x : ByteArray} (hx : L[i]? = some (u, x)) (h : rdD x = none) : ∀ ps, Good ps → L ≠ chk ps := fun ps hg e => by
  subst e
  obtain ⟨p, hp, rfl⟩ := chk_at hx
  rw [rdD_of (hg.at hp).1] at h
  cases h
theorem bad_long {L : List Ck} {i : Nat} {u : Int} {x : ByteArray} {p : List Nat} (hx : L[i]? = some (u, x)) (h : rdD x = some p) (hl : 64 < p.length) : ∀ ps, Good ps → L ≠ chk ps := fun ps hg e => by
  subst e
  obtain ⟨q, hq, rfl⟩ := chk_at hx
  rw [rdD_of (hg.at hq).1] at h
  injection h with h
  subst h
  have := (hg.at hq).2.2
  omega
theorem bad_rise {L : List Ck} {ms : List (List Nat)} (h : RdOk L ms) (hl : ms.length = L.length) {j x y : Nat} (hx : ms.flatten[j]? = some x) (hy : ms.flatten[j + 1]? = some y) (hxy : y ≤ x) : ∀ ps, Good ps → L ≠ chk ps := fun ps hg e => by
  have e2 := h.good hl hg e
  subst e2
  obtain ⟨h1, e1⟩ := List.getElem?_eq_some_iff.1 hx
  obtain ⟨h2, e2⟩ := List.getElem?_eq_some_iff.1 hy
  have := List.pairwise_iff_getElem.1 hg.nums.rises j (j + 1) h1 h2 (by omega)
  omega
theorem bad_same {L L' : List Ck} {ms : List (List Nat)} (h : RdOk L ms) (hl : ms.length = L.length) (hs : SplitOf ms.flatten L') (hne : L' ≠ L) : ∀ ps, Good ps → L ≠ chk ps := fun ps hg e => by
  have e2 := h.good hl hg e
  subst e2
  exact hne (hs.uniq ⟨ms, hg.parted, rfl, e⟩)
theorem own_split {w : World} {base : Nat} {v : Value} {m : List Nat} (h : OwnInts w base v m) : ∃ p c, v = .slice p m.length c ∧ m.length ≤ c ∧ IntsAt w (.slice p m.length c) (m.map fun x : Nat => (x : Int)) := by
  obtain ⟨p, c, e, hI⟩ := h.intsAt
  refine ⟨p, c, e, ?_, hI⟩
  rcases h.shape with ⟨e1, rfl⟩ | ⟨g, cap, e1, h1, _⟩
  · exact Nat.zero_le _
  · rw [e] at e1
    injection e1 with _ _ e3
    omega
theorem OwnInts.belowB {w w' : World} {base : Nat} {v : Value} {l : List Nat} (h : OwnInts w base v l) (hb : Below w.heap.size w w') : OwnInts w' base v l := own_cast.1 (OwnI.below (own_cast.2 h) hb)
/-- What Join tells. -/
def JoinAns (w w' : World) (L : List Ck) (e : Ending) : Prop :=
  (∃ ps v, Good ps ∧ L = chk ps ∧ e = .returned (.tuple #[v, .int .i64 0]) ∧ OwnInts w' w.heap.size v ps.flatten) ∨ ((∀ ps, Good ps → L ≠ chk ps) ∧ e = .returned (.tuple #[.slice none 0 0, .int .i64 10]))
set_option maxRecDepth 8000 in
set_option maxHeartbeats 4000000 in
theorem qjoin_any {w : World} {v : Value} {L : List Ck} (hv : ChunksAt w v L) (hl : L.length ≤ 20) (hsz : ∀ c ∈ L, c.2.size ≤ 600) :
    Calls Try.prog 17 #[v] w fun e w' => JoinAns w w' L e ∧ Below w.heap.size w w' := by
  have hnot := run_notH
  obtain ⟨p0, c0, rfl⟩ := hv.shape
  obtain ⟨n, hn⟩ : ∃ n, L.length = n := ⟨_, rfl⟩
  have HN : Hid (L.length = n) := hn
  rw [hn] at hv hl ⊢
  clear hn
  have hni : (n : Int) ≤ 20 := by omega
  go_enter Try.func17, Try.ntmps17
  go_wp2_with fail
  go_loopw [4, 5] (fun x y wr => ∃ (i : Nat) (ms : List (List Nat)), y = .int .i64 (i : Nat) ∧ i ≤ n ∧ Hid (ms.length = i ∧ RdOk L ms) ∧ OwnInts wr w.heap.size x ms.flatten ∧ Below w.heap.size w wr) (fun _ y _ => n - (intOf y).toNat)
  case atStart => exact ⟨0, [], rfl, Nat.zero_le _, ⟨rfl, fun j p hp => by simp at hp⟩, World.ownsRow_nil _ _ _ _, Below.refl _ _⟩
  case round =>
    obtain ⟨i, ms, rfl, hi, HM, hox, hBr⟩ := hrel
    have hml := HM.out.2.len
    rw [HM.out.1] at hml
    by_cases hil : i < n
    · have hii : (i : Int) < n := by omega
      have hi0 : (0 : Int) ≤ i := by omega
      obtain ⟨⟨u, s⟩, hu⟩ : ∃ x, L[i]? = some x := ⟨_, List.getElem?_eq_getElem (by rw [HN.out]; exact hil)⟩
      obtain ⟨g, o, rfl, hnn, d0, d1⟩ := (hv.below hBr).at hu
      have hss := hsz _ (List.mem_of_getElem? hu)
      dsimp only at d0 d1 hss
      have hrd := qread_any s hss
      have HBr : Hid (Below w.heap.size w wr) := hBr
      have HU : Hid (L[i]? = some (u, s)) := hu
      have HOX : Hid (OwnInts wr w.heap.size _ ms.flatten) := hox
      obtain ⟨px, cx, rfl, _⟩ := hox.intsAt
      generalize ms.flatten.length = mfl at hml HOX ⊢
      clear hnn hBr hu hox
      go_wp2_with fail
      refine (hrd _).mono ?_
      rintro e w3 ⟨hB3, hans⟩
      clear hrd
      have HB3 : Hid (Below w.heap.size w w3) := below_new HBr.out hB3
      rcases hans with ⟨P, vP, rfl, hoP, hP1, hP2, hP3⟩ | ⟨rfl, hno⟩
      · have hnP : Nums P := ⟨hP1, hP2⟩
        have hrd := rd_some hnP hP3
        have hlP := rd_len hnP hP3
        obtain ⟨pP, cP, rfl, hIP⟩ := hoP.intsAt
        by_cases h64 : 64 < P.length
        · have HNo : Hid (∀ ps, Good ps → L ≠ chk ps) := bad_long HU.out hrd h64
          have h64i : (64 : Int) < (P.length : Nat) := by omega
          generalize P.length = lP at h64i ⊢
          clear hoP hP1 hP2 hP3 hlP hIP hrd hnP hB3 h64
          go_wp2_with fail
          go_ret2
          exact ⟨.inr ⟨HNo.out, rfl⟩, HB3.out⟩
        · have h64i : ¬ (64 : Int) < (P.length : Nat) := by omega
          have HM2 : Hid ((ms ++ [P]).length = i + 1 ∧ RdOk L (ms ++ [P])) := by
            refine ⟨by rw [List.length_append, HM.out.1]; rfl, HM.out.2.snoc (u := u) ?_ hnP (by omega)⟩
            rw [HM.out.1, HU.out]
            have := (rdD_some hrd).2
            rw [this]
          have hoI := own_cast.2 (HOX.out.belowB hB3)
          have hwb : w.heap.size ≤ w3.heap.size := HB3.out.size
          have hsum : (ms.flatten.map fun x : Nat => (x : Int)).length + (P.map fun x : Nat => (x : Int)).length ≤ 1000000000 := by
            rw [List.length_map, List.length_map]
            have := HM.out.2.len
            rw [HM.out.1] at this
            omega
          obtain ⟨lP, hlPe⟩ : ∃ lP, P.length = lP := ⟨_, rfl⟩
          rw [hlPe] at hIP h64i ⊢
          have hnew : ∀ k, (Value.slice px mfl cx).ownBlock = some k → w.heap.size ≤ k := fun k hk => (World.ownsRow.lt HOX.out k hk).1
          clear hoP hP1 hP2 hP3 hlP hrd hnP hlPe h64
          go_wp2_with (at_builtin; refine wpList_append_ints rfl _ _ rfl rfl rfl hoI hIP hsum hwb ?_; intro v5 w5 hown5 hg5)
          have HF : Hid (OwnInts w5 w.heap.size v5 (ms ++ [P]).flatten ∧ Below w.heap.size w w5) := by
            refine ⟨?_, below_grownH HB3.out hg5 hnew⟩
            rw [List.flatten_append, List.flatten_cons, List.flatten_nil, List.append_nil]
            refine own_cast.1 ?_
            rw [List.map_append]
            exact hown5
          exact ⟨⟨i + 1, ms ++ [P], by go_num, by omega, HM2, HF.out⟩, by simp [intOf]; omega⟩
      · have HNo : Hid (∀ ps, Good ps → L ≠ chk ps) := bad_read HU.out (rd_none hno)
        clear hno hB3
        go_wp2_with fail
        go_ret2
        exact ⟨.inr ⟨HNo.out, rfl⟩, HB3.out⟩
    · have hii : ¬ (i : Int) < n := by omega
      have HML : Hid (ms.length = L.length ∧ RdOk L ms) := ⟨by rw [HM.out.1, HN.out]; omega, HM.out.2⟩
      obtain ⟨px, cx, rfl, hcx, hIx⟩ := own_split hox
      have hshape := hox.shape
      have HOX : Hid (OwnInts wr w.heap.size (.slice px ms.flatten.length cx) ms.flatten) := hox
      have HBr : Hid (Below w.heap.size w wr) := hBr
      obtain ⟨ln, hln⟩ : ∃ ln, ms.flatten.length = ln := ⟨_, rfl⟩
      have HLN : Hid (ms.flatten.length = ln) := hln
      have hlnb : ln ≤ 1280 := by omega
      have hlni : (ln : Int) ≤ 1280 := by omega
      rw [hln] at hcx hIx hshape HOX ⊢
      clear hox hBr hml hln
      go_wp2_with fail
      rename World => wo
      go_loopw [8] (fun y wr => ∃ i : Nat, y = .int .i64 (i : Nat) ∧ 1 ≤ i ∧ i ≤ max 1 ln ∧ Hid (∀ (j : Nat) x y, j + 1 < i → ms.flatten[j]? = some x → ms.flatten[j + 1]? = some y → x < y) ∧ Below wo.heap.size wo wr) (fun y _ => ln - (intOf y).toNat)
      case atStart => exact ⟨1, rfl, Nat.le_refl _, by omega, fun j x y h => by omega, Below.refl _ _⟩
      case round =>
        obtain ⟨q, rfl, hq1, hq2, HR, hB⟩ := hrel
        have HBq : Hid (Below w.heap.size w wr) := below_new HBr.out hB
        have HBo : Hid (Below wo.heap.size wo wr) := hB
        by_cases hql : q < ln
        · have hqi : (q : Int) < ln := by omega
          have hq0 : (0 : Int) ≤ q := by omega
          obtain ⟨r, hr⟩ : ∃ r, q = r + 1 := ⟨q - 1, by omega⟩
          have hrw : IntKind.i64.wrap ((q : Int) - 1) = (r : Int) := by rw [IntKind.wrap_i64]; omega
          have hri : (r : Int) < ln := by omega
          have hr0 : (0 : Int) ≤ r := by omega
          obtain ⟨y, hy⟩ : ∃ y, ms.flatten[q]? = some y := ⟨_, List.getElem?_eq_getElem (by rw [HLN.out]; exact hql)⟩
          obtain ⟨x, hx⟩ : ∃ x, ms.flatten[r]? = some x := ⟨_, List.getElem?_eq_getElem (by rw [HLN.out]; omega)⟩
          obtain ⟨g, cap, hge, hcells⟩ : ∃ g cap, Value.slice px ln cx = .slice (some ⟨g, 0, none⟩) ln cap ∧ ∀ W, Below wo.heap.size wo W → ∀ j x, ms.flatten[j]? = some x → W.cell? ⟨g, j, none⟩ = some (.int .i64 (x : Nat)) := by
            rcases hshape with ⟨e1, e2⟩ | ⟨g, cap, e1, _, _, _, h5⟩
            · rw [e2] at hy; simp at hy
            · exact ⟨g, cap, e1, h5⟩
          injection hge with hg1 _ hg3
          subst hg1 hg3
          have hcy := fun W (hW : Below wr.heap.size wr W) => hcells W (below_new hB hW) q y hy
          have hcx2 := fun W (hW : Below wr.heap.size wr W) => hcells W (below_new hB hW) r x hx
          have HXY : Hid (q = r + 1 ∧ ms.flatten[r]? = some x ∧ ms.flatten[q]? = some y) := ⟨hr, hx, hy⟩
          clear hcells hshape hx hy hB hr hIx
          by_cases hxy : y ≤ x
          · have hxyi : (y : Int) ≤ (x : Int) := by omega
            have HNo : Hid (∀ ps, Good ps → L ≠ chk ps) := bad_rise HML.out.2 HML.out.1 HXY.out.2.1 (by rw [← HXY.out.1]; exact HXY.out.2.2) hxy
            go_wp2_with fail
            refine wp_region_class (fun W => Below wr.heap.size wr W) mixedP (by kernel_rfl) (Below.refl _ _).drew ?_
            go_big_quiet_step (exact fun _ => rfl)
            go_big_quiet_step (exact fun _ => rfl)
            refine wpQ_val rfl (.pointer (some ⟨g, q, none⟩)) (fun _ => by go_simp) ?_
            go_frame
            refine wpQ_ldIw rfl _ rfl rfl (hcy) ?_
            go_frame
            go_big_quiet_step (exact fun _ => rfl)
            go_big_quiet_step (exact fun _ => rfl)
            refine wpQ_val rfl (.int .i64 (r : Nat)) (fun _ => by go_simp) ?_
            go_frame
            refine wpQ_val rfl (.pointer (some ⟨g, r, none⟩)) (fun _ => by go_simp) ?_
            go_frame
            refine wpQ_ldIw rfl _ rfl rfl (hcx2) ?_
            go_frame
            refine wpQ_val rfl (.bool true) (fun _ => by go_simp) ?_
            go_frame
            refine wpQuiet_nil ?_
            intro W6 hB6
            show Exit.then _ _ Exit.normal _ _
            simp only [Exit.then]
            go_at_K
            have HB6 : Hid (Below w.heap.size w W6) := below_new HBq.out hB6
            clear hB6 hrw hcy hcx2
            go_wp2_with fail
            go_ret2
            exact ⟨.inr ⟨HNo.out, rfl⟩, HB6.out⟩
          · have hxyi : ¬ (y : Int) ≤ (x : Int) := by omega
            have HR2 : Hid (∀ (j : Nat) x y, j + 1 < q + 1 → ms.flatten[j]? = some x → ms.flatten[j + 1]? = some y → x < y) := fun j a b hj ha hb => by
              by_cases e : j = r
              · subst e
                rw [HXY.out.2.1] at ha
                rw [← HXY.out.1, HXY.out.2.2] at hb
                injection ha with ha
                injection hb with hb
                omega
              · exact HR.out j a b (by have := HXY.out.1; omega) ha hb
            go_wp2_with fail
            refine wp_region_class (fun W => Below wr.heap.size wr W) mixedP (by kernel_rfl) (Below.refl _ _).drew ?_
            go_big_quiet_step (exact fun _ => rfl)
            go_big_quiet_step (exact fun _ => rfl)
            refine wpQ_val rfl (.pointer (some ⟨g, q, none⟩)) (fun _ => by go_simp) ?_
            go_frame
            refine wpQ_ldIw rfl _ rfl rfl (hcy) ?_
            go_frame
            go_big_quiet_step (exact fun _ => rfl)
            go_big_quiet_step (exact fun _ => rfl)
            refine wpQ_val rfl (.int .i64 (r : Nat)) (fun _ => by go_simp) ?_
            go_frame
            refine wpQ_val rfl (.pointer (some ⟨g, r, none⟩)) (fun _ => by go_simp) ?_
            go_frame
            refine wpQ_ldIw rfl _ rfl rfl (hcx2) ?_
            go_frame
            refine wpQ_val rfl (.bool false) (fun _ => by go_simp) ?_
            go_frame
            refine wpQuiet_nil ?_
            intro W6 hB6
            show Exit.then _ _ Exit.normal _ _
            simp only [Exit.then]
            go_at_K
            have HB6 : Hid (Below wo.heap.size wo W6) := below_new HBo.out hB6
            clear hB6 hrw hcy hcx2
            go_wp2_with fail
            exact ⟨⟨q + 1, by go_num, by omega, by omega, HR2, HB6.out⟩, by simp [intOf]; omega⟩
        · have hqi : ¬ (q : Int) < ln := by omega
          have hnum : Nums ms.flatten := ⟨rise_adj _ fun j x y hx hy => HR.out j x y (by
            have := (List.getElem?_eq_some_iff.1 hy).1
            rw [HLN.out] at this
            omega) hx hy, HML.out.2.bound⟩
          have hsp := qsplit_any (hIx.below hB) HLN.out hcx hnum (by omega)
          have hvq := hv.below HBq.out
          have HOQ : Hid (OwnInts wr w.heap.size (.slice px ln cx) ms.flatten) := HOX.out.belowB hB
          clear hIx hshape hB hcx
          go_wp2_with fail
          refine hsp.mono ?_
          rintro e w5 ⟨v5, L5, rfl, hL5, ho5, hB5⟩
          have hl5 := hL5
          obtain ⟨p5, c5, rfl⟩ := ho5.at.shape
          have hlen5 : L5.length ≤ 1000000 := by
            have := split_len (L := L5) hL5
            by_cases h1000 : ms.flatten.length ≤ 1000
            · have := this h1000; omega
            · obtain ⟨qs, h1, h2, h3⟩ := hL5
              have h4 : qs.length ≤ qs.flatten.length := by
                have : ∀ l : List (List Nat), (∀ p ∈ l, 1 ≤ p.length) → l.length ≤ l.flatten.length := fun l => by
                  induction l with
                  | nil => simp
                  | cons a l ih =>
                    intro h
                    have h1 := ih (fun p hp => h p (List.mem_cons_of_mem _ hp))
                    have h2 := h a (List.mem_cons_self ..)
                    rw [List.flatten_cons, List.length_append, List.length_cons]
                    omega
                exact this qs fun p hp => (h1.one p hp).1
              rw [h2, HLN.out] at h4
              rw [h3, chk_len]
              omega
          have HB5 : Hid (Below w.heap.size w w5) := below_new HBq.out hB5
          by_cases hsame : L5 = L
          · subst hsame
            have hsm := qsame_eq ho5.at (hvq.below hB5) hlen5
            obtain ⟨ps, hg, hfl, hLe⟩ := hL5.good hnum
            have HG : Hid (Good ps ∧ L5 = chk ps ∧ ps.flatten = ms.flatten) := ⟨hg, hLe, hfl⟩
            have HO5 : Hid (OwnInts w5 w.heap.size (.slice px ln cx) ms.flatten) := HOQ.out.belowB hB5
            clear hsp hL5 hl5 ho5 hB5 hvq hg hfl hLe hlen5
            go_wp2_with fail
            refine hsm.mono ?_
            rintro e w6 ⟨rfl, hB6⟩
            have HB6 : Hid (Below w.heap.size w w6) := below_new HB5.out hB6
            have HO6 : Hid (OwnInts w6 w.heap.size (.slice px ln cx) ps.flatten) := by show OwnInts _ _ _ _; rw [HG.out.2.2]; exact HO5.out.belowB hB6
            clear hsm hB6
            go_wp2_with fail
            go_ret2
            exact ⟨.inl ⟨ps, _, HG.out.1, HG.out.2.1, rfl, HO6.out⟩, HB6.out⟩
          · have hsm := qsame_ne ho5.at (hvq.below hB5) hlen5 (by rw [HN.out]; omega) hsame
            have HNo : Hid (∀ ps, Good ps → L ≠ chk ps) := bad_same HML.out.2 HML.out.1 hl5 hsame
            clear hsp hL5 hl5 ho5 hB5 hvq hlen5 hsame
            go_wp2_with fail
            refine hsm.mono ?_
            rintro e w6 ⟨rfl, hB6⟩
            have HB6 : Hid (Below w.heap.size w w6) := below_new HB5.out hB6
            clear hsm hB6
            go_wp2_with fail
            go_ret2
            exact ⟨.inr ⟨HNo.out, rfl⟩, HB6.out⟩
theorem qjoin_ok {w : World} {v : Value} {ps : List (List Nat)} (hv : ChunksAt w v (chk ps)) (hg : Good ps) (hl : ps.length ≤ 20) (hsz : ∀ c ∈ chk ps, c.2.size ≤ 600) :
    Calls Try.prog 17 #[v] w fun e w' => ∃ u, e = .returned (.tuple #[u, .int .i64 0]) ∧ OwnInts w' w.heap.size u ps.flatten ∧ Below w.heap.size w w' := by
  refine (qjoin_any hv (by rw [chk_len]; exact hl) hsz).mono ?_
  rintro e w' ⟨h, hB⟩
  rcases h with ⟨qs, u, hq, hL, rfl, ho⟩ | ⟨hno, _⟩
  · have e1 : qs.flatten = ps.flatten := by
      obtain ⟨_, _⟩ := hq
      have h1 : SplitOf qs.flatten (chk qs) := ⟨qs, by assumption, rfl, rfl⟩
      have h2 : qs = ps := by
        refine List.ext_getElem? fun j => ?_
        have hlen : qs.length = ps.length := by have := congrArg List.length hL; rw [chk_len, chk_len] at this; exact this.symm
        by_cases hj : j < ps.length
        · obtain ⟨p, hp⟩ : ∃ p, ps[j]? = some p := ⟨_, List.getElem?_eq_getElem hj⟩
          obtain ⟨⟨u, x⟩, hx⟩ : ∃ x, (chk ps)[j]? = some x := ⟨_, List.getElem?_eq_getElem (by rw [chk_len]; exact hj)⟩
          obtain ⟨p1, hp1, e1⟩ := chk_at hx
          rw [hL] at hx
          obtain ⟨q1, hq1, e2⟩ := chk_at hx
          rw [hq1, hp1, dataOf_inj (Good.at ⟨by assumption, by assumption⟩ hq1).1 (hg.at hp1).1 (e2.symm.trans e1)]
        · rw [List.getElem?_eq_none (by omega), List.getElem?_eq_none (by omega)]
      rw [h2]
    rw [e1] at ho
    exact ⟨u, rfl, ho, hB⟩
  · exact absurd rfl (hno ps hg)
theorem qjoin_bad {w : World} {v : Value} {L : List Ck} (hv : ChunksAt w v L) (hno : ∀ ps, Good ps → L ≠ chk ps) (hl : L.length ≤ 20) (hsz : ∀ c ∈ L, c.2.size ≤ 600) :
    Calls Try.prog 17 #[v] w fun e w' => e = .returned (.tuple #[.slice none 0 0, .int .i64 10]) ∧ Below w.heap.size w w' := by
  refine (qjoin_any hv hl hsz).mono ?_
  rintro e w' ⟨h, hB⟩
  rcases h with ⟨qs, u, hq, hL, _, _⟩ | ⟨_, rfl⟩
  · exact absurd hL (hno qs hq)
  · exact ⟨rfl, hB⟩
end Go.Proofs.Ytiokbhbggpibpaa
/-
  The document's Append and Cut.
-/
namespace Go.Proofs.Ytiokbhbggpibpaa
open Go Go.RowKit

set_option maxRecDepth 8000 in
theorem qappend_bad {w : World} {v : Value} {L : List Ck} (hv : ChunksAt w v L) (hno : ∀ ps, Good ps → L ≠ chk ps) (hl : L.length ≤ 20) (hsz : ∀ c ∈ L, c.2.size ≤ 600) (n : Int) :
    Calls Try.prog 19 #[v, .int .i64 n] w fun e w' => e = .returned (.tuple #[.slice none 0 0, .int .i64 10]) ∧ Below w.heap.size w w' := by
  have hj := qjoin_bad hv hno hl hsz
  obtain ⟨p0, c0, rfl⟩ := hv.shape
  generalize L.length = ln at *
  clear hno hsz
  go_enter Try.func19, Try.ntmps19
  go_wp2_with fail
  refine hj.mono ?_
  rintro e w1 ⟨rfl, hB1⟩
  clear hj
  go_wp2_with fail
  go_ret2
  exact ⟨rfl, hB1⟩
set_option maxRecDepth 8000 in
theorem qcut_bad {w : World} {v : Value} {L : List Ck} (hv : ChunksAt w v L) (hno : ∀ ps, Good ps → L ≠ chk ps) (hl : L.length ≤ 20) (hsz : ∀ c ∈ L, c.2.size ≤ 600) (n : Int) :
    Calls Try.prog 21 #[v, .int .i64 n] w fun e w' => e = .returned (.tuple #[.slice none 0 0, .int .i64 10]) ∧ Below w.heap.size w w' := by
  have hj := qjoin_bad hv hno hl hsz
  obtain ⟨p0, c0, rfl⟩ := hv.shape
  generalize L.length = ln at *
  clear hno hsz
  go_enter Try.func21, Try.ntmps21
  go_wp2_with fail
  refine hj.mono ?_
  rintro e w1 ⟨rfl, hB1⟩
  clear hj
  go_wp2_with fail
  go_ret2
  exact ⟨rfl, hB1⟩
def HaltP (p : Prop) : Prop := p
theorem HaltP.out {p : Prop} (h : HaltP p) : p := h
theorem good_len {ps : List (List Nat)} (hg : Good ps) (hl : ps.length ≤ 20) : ps.flatten.length ≤ 1280 := by
  have : ∀ ms : List (List Nat), (∀ p ∈ ms, p.length ≤ 64) → ms.flatten.length ≤ 64 * ms.length := fun ms => by
    induction ms with
    | nil => simp
    | cons a l ih =>
      intro h
      have h1 := ih (fun p hp => h p (List.mem_cons_of_mem _ hp))
      have h2 := h a (List.mem_cons_self ..)
      rw [List.flatten_cons, List.length_append, List.length_cons]
      omega
  have := this ps fun p hp => (hg.parted.one p hp).2
  omega
set_option maxRecDepth 8000 in
set_option maxHeartbeats 1000000 in
theorem qcut_ok {w : World} {v : Value} {ps : List (List Nat)} (hv : ChunksAt w v (chk ps)) (hg : Good ps) (hl : ps.length ≤ 20) (hsz : ∀ c ∈ chk ps, c.2.size ≤ 600) (f : Int) :
    Calls Try.prog 21 #[v, .int .i64 f] w fun e w' => ∃ v' L, e = .returned (.tuple #[v', .int .i64 0]) ∧ SplitOf (lessF f ps.flatten) L ∧ OwnChunks w' w.heap.size v' L ∧ Below w.heap.size w w' := by
  have hj := qjoin_ok hv hg hl hsz
  have hlen := good_len hg hl
  have HNu : Hid (Nums (lessF f ps.flatten)) := hg.nums.sub (lessF_sub _ _)
  have HLl : Hid ((lessF f ps.flatten).length ≤ 1280) := Nat.le_trans (lessF_sub f ps.flatten).length_le hlen
  obtain ⟨p0, c0, rfl⟩ := hv.shape
  generalize (chk ps).length = ln at *
  clear hsz
  go_enter Try.func21, Try.ntmps21
  go_wp2_with fail
  refine hj.mono ?_
  rintro e w1 ⟨u1, rfl, ho1, hB1⟩
  clear hj
  obtain ⟨p1, c1, rfl, hI1⟩ := ho1.intsAt
  have hct := qcut_any hI1 (by omega) f
  generalize ps.flatten.length = l1 at hct ⊢
  clear ho1 hI1
  go_wp2_with fail
  refine hct.mono ?_
  rintro e w2 ⟨u2, rfl, ho2, hB2⟩
  clear hct
  obtain ⟨p2, c2, rfl, hc2, hI2⟩ := own_split ho2
  have hsp := qsplit_any hI2 rfl hc2 HNu.out (by have := HLl.out; unfold lessF at this; omega)
  have HB2 : Hid (Below w.heap.size w w2) := below_new hB1 hB2
  generalize (ps.flatten.filter fun x : Nat => decide ((x : Int) < f)).length = l2 at hsp ⊢
  clear ho2 hI2 hB1 hB2 hc2
  go_wp2_with fail
  refine hsp.mono ?_
  rintro e w3 ⟨v3, L3, rfl, hL3, ho3, hB3⟩
  have HF : Hid (SplitOf (lessF f ps.flatten) L3 ∧ OwnChunks w3 w.heap.size v3 L3 ∧ Below w.heap.size w w3) := ⟨hL3, ho3.mono HB2.out.size, below_new HB2.out hB3⟩
  clear hsp hL3 ho3 hB3
  go_wp2_with fail
  go_ret2
  exact ⟨_, L3, rfl, HF.out⟩
theorem last_get {m : List Nat} {k : Nat} (h : m.length = k + 1) : ∃ y, m[k]? = some y ∧ m.getLastD 0 = y := by
  obtain ⟨y, hy⟩ : ∃ y, m[k]? = some y := ⟨_, List.getElem?_eq_getElem (by omega)⟩
  refine ⟨y, hy, ?_⟩
  rw [List.getLastD_eq_getLast?, List.getLast?_eq_getElem?, h, Nat.add_sub_cancel, hy]
  rfl
set_option maxRecDepth 8000 in
set_option maxHeartbeats 2000000 in
theorem qappend_arg {w : World} {v : Value} {ps : List (List Nat)} (hv : ChunksAt w v (chk ps)) (hg : Good ps) (hl : ps.length ≤ 20) (hsz : ∀ c ∈ chk ps, c.2.size ≤ 600) {n : Int} (hno : ¬ ((0 ≤ n ∧ n ≤ 2147483647) ∧ ∀ x ∈ ps.flatten, (x : Int) < n)) :
    Calls Try.prog 19 #[v, .int .i64 n] w fun e w' => e = .returned (.tuple #[.slice none 0 0, .int .i64 1]) ∧ Below w.heap.size w w' := by
  have hj := qjoin_ok hv hg hl hsz
  have hlen := good_len hg hl
  obtain ⟨p0, c0, rfl⟩ := hv.shape
  generalize (chk ps).length = ln at *
  clear hsz
  go_enter Try.func19, Try.ntmps19
  go_wp2_with fail
  refine hj.mono ?_
  rintro e w1 ⟨u1, rfl, ho1, hB1⟩
  clear hj
  have hshape := ho1.shape
  obtain ⟨p1, c1, rfl, _⟩ := ho1.intsAt
  obtain ⟨l1, hl1⟩ : ∃ l1, ps.flatten.length = l1 := ⟨_, rfl⟩
  rw [hl1] at hlen hshape ⊢
  have hl1i : (l1 : Int) ≤ 1280 := by omega
  by_cases h0 : n < 0
  · clear hshape hno
    go_wp2_with fail
    go_ret2
    exact ⟨rfl, hB1⟩
  · by_cases h1 : 2147483647 < n
    · clear hshape hno
      go_wp2_with fail
      go_ret2
      exact ⟨rfl, hB1⟩
    · obtain ⟨x, hx, hxn⟩ : ∃ x ∈ ps.flatten, n ≤ (x : Int) := by
        refine Classical.byContradiction fun h => hno ⟨⟨by omega, by omega⟩, fun x hx => ?_⟩
        refine Classical.byContradiction fun h2 => h ⟨x, hx, by omega⟩
      have hpos : 0 < l1 := by rw [← hl1]; exact List.length_pos_of_mem hx
      obtain ⟨k, hk⟩ : ∃ k, l1 = k + 1 := ⟨l1 - 1, by omega⟩
      obtain ⟨y, hy, hye⟩ := last_get (m := ps.flatten) (k := k) (by omega)
      have hxy := last_maxH hg.nums (by omega) x hx
      rw [hye] at hxy
      rcases hshape with ⟨_, e2⟩ | ⟨g, cap, e1, _, _, _, h5⟩
      · rw [e2] at hx; simp at hx
      · injection e1 with e1 _ e3
        subst e1 e3
        have hc := h5 w1 (Below.refl _ _) k y hy
        have hyn : n ≤ (y : Int) := by omega
        have hpi : (0 : Int) < l1 := by omega
        have hkw : IntKind.i64.wrap ((l1 : Int) - 1) = (k : Int) := by rw [IntKind.wrap_i64]; omega
        have hki : (l1 : Int) - 1 = (k : Int) := by omega
        have hkl : (k : Int) < l1 := by omega
        clear h5 hx hy hye hxy hno hk
        go_wp2_with fail
        go_ret2
        exact ⟨rfl, hB1⟩
set_option maxRecDepth 8000 in
set_option maxHeartbeats 4000000 in
theorem qappend_ok {w : World} {v : Value} {ps : List (List Nat)} (hv : ChunksAt w v (chk ps)) (hg : Good ps) (hl : ps.length ≤ 20) (hsz : ∀ c ∈ chk ps, c.2.size ≤ 600) {n : Nat} (hn : n < 2147483648) (ha : ∀ x ∈ ps.flatten, x < n) :
    Calls Try.prog 19 #[v, .int .i64 (n : Int)] w fun e w' => ∃ v' L, e = .returned (.tuple #[v', .int .i64 0]) ∧ SplitOf (ps.flatten ++ [n]) L ∧ OwnChunks w' w.heap.size v' L ∧ Below w.heap.size w w' := by
  have hj := qjoin_ok hv hg hl hsz
  have hlen := good_len hg hl
  have HNu : Hid (Nums (ps.flatten ++ [n])) := nums_more hg.nums hn ha
  have HPs : Hid (ps.flatten.length ≤ 1280) := hlen
  obtain ⟨p0, c0, rfl⟩ := hv.shape
  generalize (chk ps).length = ln at *
  have hni : (n : Int) ≤ 2147483647 := by omega
  have hn0 : ¬ (n : Int) < 0 := by omega
  have hn1 : ¬ (2147483647 : Int) < (n : Int) := by omega
  clear hsz
  go_enter Try.func19, Try.ntmps19
  go_wp2_with fail
  refine hj.mono ?_
  rintro e w1 ⟨u1, rfl, ho1, hB1⟩
  clear hj
  have hshape := ho1.shape
  obtain ⟨p1, c1, rfl, hI1⟩ := ho1.intsAt
  obtain ⟨l1, hl1⟩ : ∃ l1, ps.flatten.length = l1 := ⟨_, rfl⟩
  have HL1 : Hid (ps.flatten.length = l1) := hl1
  rw [hl1] at hlen hI1 hshape ⊢
  have hl1i : (l1 : Int) ≤ 1280 := by omega
  have HB1 : Hid (Below w.heap.size w w1) := hB1
  have hsum : ([] : List Int).length + (ps.flatten.map fun x : Nat => (x : Int)).length ≤ 1000000000 := by rw [List.length_map, hl1]; simp; omega
  have hnil := OwnI.nil w1 w1.heap.size
  obtain ⟨Z, hZ⟩ : ∃ Z, (ps.flatten.map fun x : Nat => (x : Int)) = Z := ⟨_, rfl⟩
  have HZ : Hid ((ps.flatten.map fun x : Nat => (x : Int)) = Z ∧ Z.length = l1) := ⟨hZ, by rw [← hZ, List.length_map]; exact hl1⟩
  rw [hZ] at hI1 hsum
  clear hl1 ho1 hB1 hZ
  by_cases hpos : 0 < l1
  · obtain ⟨k, hk⟩ : ∃ k, l1 = k + 1 := ⟨l1 - 1, by omega⟩
    obtain ⟨y, hy, hye⟩ := last_get (m := ps.flatten) (k := k) (by have := HL1.out; omega)
    have hyn := ha y (List.mem_of_getElem? hy)
    rcases hshape with ⟨_, e2⟩ | ⟨g, cap, e1, _, _, _, h5⟩
    · rw [e2] at hy; simp at hy
    · injection e1 with e1 _ e3
      subst e1 e3
      have hc := h5 w1 (Below.refl _ _) k y hy
      have hyi : ¬ (n : Int) ≤ (y : Int) := by omega
      have hpi : (0 : Int) < l1 := by omega
      have hki : (l1 : Int) - 1 = (k : Int) := by omega
      have hkl : (k : Int) < l1 := by omega
      clear h5 hy hye hk hyn
      go_wp2_with (first
        | (at_builtin; refine wpList_append_ints rfl _ _ rfl rfl rfl hnil hI1 hsum (Nat.le_refl _) ?_; intro v5 w5 hown5 hg5; rw [List.nil_append] at hown5; have HB5 : Hid (Below w1.heap.size w1 w5) := below_grownH (Below.refl _ _) hg5 (fun k hk => by cases hk); obtain ⟨px, cx, rfl⟩ := hown5.at.lenH; rw [HZ.out.2] at hown5 ⊢; have hoxa := fun z => OwnI.below hown5 (below_new1 w5 z); have hxl : Z.length ≤ 1000000 := (by rw [HZ.out.2]; omega); have hz5 := HB5.out.size; have hnew : ∀ k, (Value.slice px l1 cx).ownBlock = some k → w1.heap.size ≤ k := (fun k hk => (hown5.lt k hk).1); clear hg5 hnil hI1)
        | (at_builtin; refine HaltP.out ?_))
      unfold HaltP
      refine wpList_append_one rfl _ _ rfl rfl rfl (hoxa _) ((Holds.new w5 3 #[.int .i64 (n : Nat)]).cell 0) hxl (by simp; omega) ?_
      intro v6 w6 hown6 hg6
      have hg6' : (w5.alloc (.cells #[.int .i64 (n : Nat)] 3)).grownBy w6 (Value.slice px l1 cx).ownBlock := hg6
      have HB6 : Hid (Below w1.heap.size w1 w6) := below_grownI HB5.out hg6' hnew
      have ho6 : OwnInts w6 w1.heap.size v6 (ps.flatten ++ [n]) := own_cast.1 (by rw [List.map_append, HZ.out.1]; exact hown6)
      obtain ⟨p6, c6, rfl, hc6, hI6⟩ := own_split ho6
      obtain ⟨l6, hl6⟩ : ∃ l6, (ps.flatten ++ [n]).length = l6 := ⟨_, rfl⟩
      have hl6b : l6 ≤ 10000 := by rw [← hl6, List.length_append, HL1.out, List.length_singleton]; omega
      have hsp := qsplit_any hI6 rfl hc6 HNu.out (by rw [hl6]; exact hl6b)
      rw [hl6] at hsp ⊢
      clear hl6
      clear hown6 hg6 hg6' ho6 hI6 hc6 hoxa hown5 hnew hxl
      go_wp2_with fail
      refine hsp.mono ?_
      rintro e w7 ⟨v7, L7, rfl, hL7, ho7, hB7⟩
      have HF : Hid (SplitOf (ps.flatten ++ [n]) L7 ∧ OwnChunks w7 w.heap.size v7 L7 ∧ Below w.heap.size w w7) := ⟨hL7, ho7.mono (Nat.le_trans HB1.out.size HB6.out.size), below_new HB1.out (below_new HB6.out hB7)⟩
      clear hsp hL7 ho7 hB7
      go_wp2_with fail
      go_ret2
      exact ⟨_, L7, rfl, HF.out⟩
  · have hpi : ¬ (0 : Int) < l1 := by omega
    clear hshape hpos
    go_wp2_with (first
      | (at_builtin; refine wpList_append_ints rfl _ _ rfl rfl rfl hnil hI1 hsum (Nat.le_refl _) ?_; intro v5 w5 hown5 hg5; rw [List.nil_append] at hown5; have HB5 : Hid (Below w1.heap.size w1 w5) := below_grownH (Below.refl _ _) hg5 (fun k hk => by cases hk); obtain ⟨px, cx, rfl⟩ := hown5.at.lenH; rw [HZ.out.2] at hown5 ⊢; have hoxa := fun z => OwnI.below hown5 (below_new1 w5 z); have hxl : Z.length ≤ 1000000 := (by rw [HZ.out.2]; omega); have hz5 := HB5.out.size; have hnew : ∀ k, (Value.slice px l1 cx).ownBlock = some k → w1.heap.size ≤ k := (fun k hk => (hown5.lt k hk).1); clear hg5 hnil hI1)
      | (at_builtin; refine HaltP.out ?_))
    unfold HaltP
    refine wpList_append_one rfl _ _ rfl rfl rfl (hoxa _) ((Holds.new w5 3 #[.int .i64 (n : Nat)]).cell 0) hxl (by simp; omega) ?_
    intro v6 w6 hown6 hg6
    have hg6' : (w5.alloc (.cells #[.int .i64 (n : Nat)] 3)).grownBy w6 (Value.slice px l1 cx).ownBlock := hg6
    have HB6 : Hid (Below w1.heap.size w1 w6) := below_grownI HB5.out hg6' hnew
    have ho6 : OwnInts w6 w1.heap.size v6 (ps.flatten ++ [n]) := own_cast.1 (by rw [List.map_append, HZ.out.1]; exact hown6)
    obtain ⟨p6, c6, rfl, hc6, hI6⟩ := own_split ho6
    obtain ⟨l6, hl6⟩ : ∃ l6, (ps.flatten ++ [n]).length = l6 := ⟨_, rfl⟩
    have hl6b : l6 ≤ 10000 := by rw [← hl6, List.length_append, HL1.out, List.length_singleton]; omega
    have hsp := qsplit_any hI6 rfl hc6 HNu.out (by rw [hl6]; exact hl6b)
    rw [hl6] at hsp ⊢
    clear hl6
    clear hown6 hg6 hg6' ho6 hI6 hc6 hoxa hown5 hnew hxl
    go_wp2_with fail
    refine hsp.mono ?_
    rintro e w7 ⟨v7, L7, rfl, hL7, ho7, hB7⟩
    have HF : Hid (SplitOf (ps.flatten ++ [n]) L7 ∧ OwnChunks w7 w.heap.size v7 L7 ∧ Below w.heap.size w w7) := ⟨hL7, ho7.mono (Nat.le_trans HB1.out.size HB6.out.size), below_new HB1.out (below_new HB6.out hB7)⟩
    clear hsp hL7 ho7 hB7
    go_wp2_with fail
    go_ret2
    exact ⟨_, L7, rfl, HF.out⟩
end Go.Proofs.Ytiokbhbggpibpaa
