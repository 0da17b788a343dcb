/-
  Texts of this claim, put together.
-/
import Derived.Test.YtiokbhbggpibpaaHGF
import Derived.Test.YtiokbhbggpibpaaHGL
import Derived.Test.YtiokbhbggpibpaaHGG
import Derived.Test.YtiokbhbggpibpaaHJoinW
import Derived.Test.YtiokbhbggpibpaaBGL
import Derived.Test.YtiokbhbggpibpaaBGJ
import Derived.Test.YtiokbhbggpibpaaBGK
/-
  Towards ShardPlays: what is read, what Find tells of any row, rows of numbers that grow.
-/
namespace Go.Proofs.Ytiokbhbggpibpaa
open Go Go.RowKit

theorem flat_ge {α : Type} {f : Nat → List α} (h : ∀ u, 1 ≤ (f u).length) : ∀ us : List Nat, us.length ≤ (us.flatMap f).length
  | [] => Nat.le_refl _
  | u :: us => by
    have := flat_ge h us
    have := h u
    rw [List.flatMap_cons, List.length_append, List.length_cons]
    omega
theorem flat_le {α : Type} {f : Nat → List α} {N : Nat} (h : ∀ u, (f u).length ≤ N) : ∀ us : List Nat, (us.flatMap f).length ≤ N * us.length
  | [] => by simp
  | u :: us => by
    have := flat_le h us
    have := h u
    rw [List.flatMap_cons, List.length_append, List.length_cons, Nat.mul_add]
    omega
theorem mem_bytes (M : Nat → Bool) : (memFrom M 0).length ≤ 256 * (bytesM M).length := by
  have h1 : (memFrom M 0).length ≤ 256 * (uppers M 0).length := by
    unfold memFrom
    refine flat_le (fun u => ?_) _
    unfold ofU
    rw [List.length_map, show 0 - 256 * u = 0 by omega, ← cnt_lows]
    exact cnt_le _
  have h2 : (uppers M 0).length ≤ (bytesM M).length := flat_ge (fun u => by unfold partB; simp) _
  have := Nat.mul_le_mul_left 256 h2
  omega
theorem data_len (x : ByteArray) : x.data.toList.length = x.size := by simp
/-- What bytes are read as. -/
theorem rd_some {x : ByteArray} {p : List Nat} (h : Nums p) (hb : bytesM (ofN p) = x.data.toList) : rdD x = some p := by
  have e : dataOf p = x := by
    unfold dataOf
    rw [hb]
  rw [← e]
  exact rdD_of h
theorem rd_len {x : ByteArray} {p : List Nat} (h : Nums p) (hb : bytesM (ofN p) = x.data.toList) : p.length ≤ 256 * x.size := by
  have h1 := mem_bytes (ofN p)
  rw [h.mem, hb, data_len] at h1
  exact h1
theorem rd_none {x : ByteArray} (h : ∀ N : Nat → Bool, (∀ n, N n = true → n < 2147483648) → bytesM N ≠ x.data.toList) : rdD x = none :=
  rdD_none fun p hp e => h (ofN p) (ofN_bound hp.bound) (by rw [← e]; unfold dataOf; simp)
def noV : Value := .tuple #[.int .i64 0, .bool false, .int .i64 0]
def badV : Value := .tuple #[.int .i64 0, .bool false, .int .i64 10]
/-- The least member from a number on. -/
def firstN (p : List Nat) (f : Int) : Option Nat := (p.filter fun x : Nat => decide (f ≤ (x : Int))).head?
theorem firstV_of (p : List Nat) (f : Int) : firstV (p.filter fun x : Nat => decide (f ≤ (x : Int))) = match firstN p f with
    | some x => .tuple #[.int .i64 (x : Nat), .bool true]
    | none => .tuple #[.int .i64 0, .bool false] := by
  unfold firstN firstV
  split <;> rename_i h <;> rw [h] <;> rfl
/-- What is told, with so many chunks to ask from a place on. -/
noncomputable def goA (L : List Ck) (f : Int) : Nat → Nat → Value
  | 0, _ => noV
  | c + 1, k => match L[k]? with
    | none => noV
    | some x => match rdD x.2 with
      | none => badV
      | some p => match firstN p f with
        | none => goA L f c (k + 1)
        | some y => .tuple #[.int .i64 (y : Nat), .bool true, .int .i64 0]
noncomputable def findA (L : List Ck) (f : Int) : Value := match which (L.map (·.1)) f with
  | none => noV
  | some k => goA L f (min 2 (L.length - k)) k
theorem goA_bad {L : List Ck} {f : Int} {c k : Nat} {x : Ck} (hx : L[k]? = some x) (h : rdD x.2 = none) : goA L f (c + 1) k = badV := by
  rw [goA, hx]
  dsimp only
  rw [h]
theorem goA_yes {L : List Ck} {f : Int} {c k : Nat} {x : Ck} {p : List Nat} {y : Nat} (hx : L[k]? = some x) (h : rdD x.2 = some p) (hy : firstN p f = some y) : goA L f (c + 1) k = .tuple #[.int .i64 (y : Nat), .bool true, .int .i64 0] := by
  rw [goA, hx]
  dsimp only
  rw [h]
  dsimp only
  rw [hy]
theorem goA_next {L : List Ck} {f : Int} {c k : Nat} {x : Ck} {p : List Nat} (hx : L[k]? = some x) (h : rdD x.2 = some p) (hy : firstN p f = none) : goA L f (c + 1) k = goA L f c (k + 1) := by
  rw [goA, hx]
  dsimp only
  rw [h]
  dsimp only
  rw [hy]
theorem which_ltP {us : List Int} {f : Int} {k : Nat} (h : which us f = some k) : k < us.length := by
  rcases which_spec us f 0 with ⟨h1, _⟩ | ⟨j, u, h1, h2, _⟩
  · unfold which at h
    rw [h1] at h
    cases h
  · unfold which at h
    rw [h1] at h
    injection h with h
    have := (List.getElem?_eq_some_iff.1 h2).1
    omega
theorem own_cast {w : World} {base : Nat} {v : Value} {l : List Nat} : OwnI w base v (l.map fun x : Nat => (x : Int)) ↔ OwnInts w base v l := by
  unfold OwnI OwnInts
  rw [List.length_map, List.map_map]
  exact Iff.rfl
theorem add_plainP (b o j : Nat) : (⟨b, o, none⟩ : Addr).add j = ⟨b, o + j, none⟩ := by unfold Addr.add; split <;> simp_all
/-- Numbers behind one's own. -/
theorem run_append_ints (ty : TypeId) {w : World} {base : Nat} {v x : Value} {K L : List Int} (hown : OwnI w base v K) (hx : IntsAt w x L) (hl : K.length + L.length ≤ 1000000000) (hbase : base ≤ w.heap.size) :
    ∃ v' w', (Builtin.append_ #[22, 22] ty #[v, x]).run Try.prog w = .ok v' w' ∧ OwnI w' base v' (K ++ L) ∧ w.grownBy w' v.ownBlock := by
  obtain ⟨i0, hi, hz0, hz1, hz2⟩ := infoIntH
  have go : ∀ (ad : Addr) (c : Nat), (∀ (j : Nat) u, (L.map fun x => Value.int .i64 x)[j]? = some u → w.cell? (ad.add j) = some u) → ∃ v' w', (Builtin.append_ #[22, 22] ty #[v, .slice (some ad) L.length c]).run Try.prog w = .ok v' w' ∧ OwnI w' base v' (K ++ L) ∧ w.grownBy w' v.ownBlock := by
    intro ad c hc
    obtain ⟨v', w', h1, h2, h3, _⟩ := run_append_own (P := Try.prog) w base 22 ty 3 i0 (.int .i64 0) 1 8 underIntSlH hi hz0 hz1 hz2 rfl (by decide) v K.length (K.map fun x => .int .i64 x) hown ad L.length c (L.map fun x => .int .i64 x) (by simp) hc (fun u hu => by obtain ⟨z, _, rfl⟩ := List.mem_map.1 hu; rfl) (by unfold maxLen; omega) (by omega) hbase
    refine ⟨v', w', h1, ?_, h3⟩
    unfold OwnI
    rw [List.length_append, List.map_append]
    exact h2
  rcases hx with ⟨rfl, p, c, rfl⟩ | ⟨b, o, c, rfl, h2⟩
  · cases p with
    | some ad => exact go ad c (fun j u hu => by simp at hu)
    | none =>
      rw [List.append_nil]
      refine ⟨v, w, ?_, hown, ⟨rfl, rfl, rfl, Nat.le_refl _, fun _ _ _ => rfl⟩⟩
      rcases hown.2 with ⟨rfl, h0⟩ | ⟨g, cap, cur, rfl, q1, q2, q3, q4, q5, q6⟩
      · simp [Builtin.append_, run_underlying underIntSlH, sizeOf, typeInfo, hi, Builtin.lenOf, Builtin.firstCells]
      · simp [Builtin.append_, run_underlying underIntSlH, sizeOf, typeInfo, hi, Builtin.lenOf, Builtin.firstCells, q3, storeCells]
  · refine go ⟨b, o, none⟩ c fun j u hu => ?_
    have hj : j < L.length := by
      have := (List.getElem?_eq_some_iff.1 hu).1
      simpa using this
    rw [add_plainP, h2 j hj]
    rw [List.getElem?_map, List.getElem?_eq_getElem hj] at hu
    rw [List.getD_eq_getElem?_getD, List.getElem?_eq_getElem hj]
    exact hu
theorem wpList_append_ints {ops : Array Oper} {rest : List Oper} {o : Oper} {a : Act} {Q : Exit → Act → World → Prop} {w : World} {base : Nat} {v : Value} {K L : List Int} (hgd : o.guard = none) (s x : Operand)
    (ho : o.op = .call { callee := .builtin .append, args := #[s, x], argTypes := #[22, 22] }) {y : Value} (hs : a.eval s = v) (hx : a.eval x = y) (hown : OwnI w base v K) (hy : IntsAt w y L) (hl : K.length + L.length ≤ 1000000000) (hbase : base ≤ w.heap.size)
    (h : ∀ v' w', OwnI w' base v' (K ++ L) → w.grownBy w' v.ownBlock → wpList Try.prog ops Q rest (a.put o.dst v') w') : wpList Try.prog ops Q (o :: rest) a w := by
  refine wpList_plain hgd fun _ hK => ?_
  obtain ⟨v', w', hr, h2, h3⟩ := run_append_ints o.type hown hy hl hbase
  unfold Oper.wp execOp
  simp only [ho, resolve, invoke, builtin, Sem.run_bind, Sem.run_pure, Result.andThen_ok, List.map_toArray, List.map_cons, List.map_nil, hs, hx, hr]
  exact hK _ _ (h v' w' h2 h3)
end Go.Proofs.Ytiokbhbggpibpaa
/-
  The document's Which and Find, the program's Find: of any row.
-/
namespace Go.Proofs.Ytiokbhbggpibpaa
open Go Go.RowKit

set_option maxRecDepth 8000 in
theorem qwhich_any {w : World} {v : Value} {us : List Int} (hv : IntsAt w v us) (hl : us.length ≤ 1000000) (f : Int) : Calls Try.prog 26 #[v, .int .i64 f] w fun e w' => e = .returned (whV (which us f)) ∧ w' = w := by
  obtain ⟨p, c, rfl⟩ := hv.lenH
  obtain ⟨n, hn⟩ : ∃ n, us.length = n := ⟨_, rfl⟩
  have HN : Hid (us.length = n) := hn
  rw [hn] at hv hl ⊢
  clear hn
  have hni : (n : Int) ≤ 1000000 := by omega
  obtain ⟨A, hA⟩ : ∃ A, A = which us f := ⟨_, rfl⟩
  rw [← hA]
  have HA : Hid (A = whichFrom us f 0) := hA
  clear hA
  go_enter Try.func26, Try.ntmps26
  go_wp2_with fail
  go_loopw [6] (fun y wr => ∃ k : Nat, y = .int .i64 (k : Nat) ∧ k ≤ n ∧ Hid (A = whichFrom (us.drop k) f k) ∧ wr = w) (fun y _ => n - (intOf y).toNat)
  case atStart => exact ⟨0, rfl, Nat.zero_le _, HA, rfl⟩
  case round =>
    clear HA
    obtain ⟨k, rfl, hk, HK, hww⟩ := hrel
    have hww' := hww.symm
    clear hww
    subst hww'
    by_cases hkn : k < n
    · have hki : (k : Int) < n := by omega
      have hk0 : (0 : Int) ≤ k := by omega
      obtain ⟨u, hu⟩ : ∃ u, us[k]? = some u := ⟨_, List.getElem?_eq_getElem (by have := HN.out; omega)⟩
      obtain ⟨b, o, rfl, hc⟩ := hv.get hu
      have hd : us.drop k = u :: us.drop (k + 1) := by
        have hlt := (List.getElem?_eq_some_iff.1 hu).1
        rw [List.drop_eq_getElem_cons hlt, (List.getElem?_eq_some_iff.1 hu).2]
      by_cases hf : f ≤ u
      · have HR : Hid (A = some k) := by
          have := HK.out
          rw [hd, whichFrom, if_pos hf] at this
          exact this
        go_wp2_with fail
        go_ret2
        rw [HR.out]
        exact ⟨rfl, rfl⟩
      · have HR : Hid (A = whichFrom (us.drop (k + 1)) f (k + 1)) := by
          have := HK.out
          rw [hd, whichFrom, if_neg hf] at this
          exact this
        go_wp2_with fail
        exact ⟨⟨k + 1, by go_num, by omega, HR, trivial⟩, by simp [intOf]; omega⟩
    · have hki : ¬ (k : Int) < n := by omega
      have HR : Hid (A = none) := by
        have := HK.out
        rw [List.drop_eq_nil_of_le (by have := HN.out; omega)] at this
        exact this
      go_wp2_with fail
      go_ret2
      rw [HR.out]
      exact ⟨rfl, rfl⟩
set_option maxRecDepth 8000 in
set_option maxHeartbeats 4000000 in
theorem qfind_any {w : World} {v : Value} {L : List Ck} (hv : ChunksAt w v L) (hl : L.length ≤ 10000) (hsz : ∀ c ∈ L, c.2.size ≤ 600) (f : Int) :
    Calls Try.prog 23 #[v, .int .i64 f] w fun e w' => e = .returned (findA L f) ∧ Below w.heap.size w w' := by
  obtain ⟨p0, c0, rfl⟩ := hv.shape
  obtain ⟨n, hn⟩ : ∃ n, L.length = n := ⟨_, rfl⟩
  have HN : Hid (L.length = n) := hn
  rw [hn] at hv hl ⊢
  clear hn
  have hni : (n : Int) ≤ 10000 := by omega
  obtain ⟨A, hA⟩ : ∃ A, findA L f = A := ⟨_, rfl⟩
  rw [hA]
  have HA : Hid (findA L f = A) := hA
  clear hA
  go_enter Try.func23, Try.ntmps23
  go_wp2_with fail
  go_loopw [7, 8] (fun x y wr => ∃ i : Nat, y = .int .i64 (i : Nat) ∧ i ≤ n ∧ OwnI wr w.heap.size x ((L.take i).map (·.1)) ∧ Below w.heap.size w wr) (fun _ y _ => n - (intOf y).toNat)
  case atStart => exact ⟨0, rfl, Nat.zero_le _, OwnI.nil _ _, Below.refl _ _⟩
  case round =>
    obtain ⟨i, rfl, hi, hox, hBr⟩ := hrel
    by_cases hil : i < n
    · have hii : (i : Int) < n := by omega
      have hi0 : (0 : Int) ≤ i := by omega
      obtain ⟨⟨u, s⟩, hu⟩ : ∃ x, L[i]? = some x := ⟨_, List.getElem?_eq_getElem (by rw [HN.out]; exact hil)⟩
      obtain ⟨g, o, rfl, hnn, d0, d1⟩ := (hv.below hBr).at hu
      clear hnn
      dsimp only at d0 d1
      have HT : Hid ((L.take (i + 1)).map (·.1) = (L.take i).map (·.1) ++ [u]) := by show _ = _; rw [List.take_add_one, hu, List.map_append]; rfl
      have hxl : ((L.take i).map (·.1)).length ≤ 1000000 := by rw [List.length_map, List.length_take]; omega
      obtain ⟨px, cx, rfl⟩ := hox.at.lenH
      generalize (L.take i).map (·.1) = us at hox HT hxl
      have hoxa := fun z => OwnI.below hox (below_new1 wr z)
      have hnew : ∀ k, (Value.slice px us.length cx).ownBlock = some k → w.heap.size ≤ k := fun k hk => (hox.lt k hk).1
      have hszr := hBr.size
      go_wp2_with (at_builtin; refine wpList_append_one rfl _ _ rfl rfl rfl (hoxa _) ((Holds.new wr 3 #[.int .i64 u]).cell 0) hxl (by simp; omega) ?_; intro v5 w5 hown5 hg5)
      have hg5' : (wr.alloc (.cells #[.int .i64 u] 3)).grownBy w5 (Value.slice px us.length cx).ownBlock := hg5
      have F5 : Hid (OwnI w5 w.heap.size v5 ((L.take (i + 1)).map (·.1)) ∧ Below w.heap.size w w5) := ⟨by rw [HT.out]; exact hown5, below_grownI hBr hg5' hnew⟩
      exact ⟨⟨i + 1, by go_num, by omega, F5.out⟩, by simp [intOf]; omega⟩
    · have hii : ¬ (i : Int) < n := by omega
      rw [List.take_of_length_le (by have := HN.out; omega)] at hox
      have hul : (L.map (·.1)).length ≤ 1000000 := by rw [List.length_map]; have := HN.out; omega
      have hwh := qwhich_any hox.at hul f
      obtain ⟨px, cx, rfl⟩ := hox.at.lenH
      generalize (L.map (·.1)).length = ul at hwh ⊢
      have HBr : Hid (Below w.heap.size w wr) := hBr
      have HVr : Hid (ChunksAt wr (.slice p0 n c0) L) := hv.below hBr
      clear hul hox hBr
      obtain ⟨W, hW⟩ : ∃ W, which (L.map (·.1)) f = W := ⟨_, rfl⟩
      have HW : Hid (which (L.map (·.1)) f = W) := hW
      rw [hW] at hwh
      clear hW
      cases W with
      | none =>
        have HR : Hid (A = noV) := by
          have := HA.out
          unfold findA at this
          rw [HW.out] at this
          exact this.symm
        unfold whV at hwh
        dsimp only at hwh
        go_wp2_with fail
        refine hwh.mono ?_
        rintro e w2 ⟨rfl, hw2⟩
        have hw2' := hw2.symm
        clear hw2 hwh
        subst hw2'
        go_wp2_with fail
        rename World => wo
        go_loopw [11] (fun y wr => y = .int .i64 0 ∧ wr = wo) (fun _ _ => 0)
        case atStart => exact ⟨rfl, rfl⟩
        case round =>
          obtain ⟨rfl, hwr⟩ := hrel
          subst hwr
          go_wp2_with fail
          go_ret3
          rw [HR.out]
          exact ⟨rfl, HBr.out⟩
      | some k =>
        have hkn : k < n := by have := which_ltP HW.out; rw [List.length_map, HN.out] at this; exact this
        obtain ⟨cn, hcn⟩ : ∃ cn, min 2 (n - k) = cn := ⟨_, rfl⟩
        have HR : Hid (goA L f cn k = A) := by
          have := HA.out
          unfold findA at this
          rw [HW.out] at this
          dsimp only at this
          rw [HN.out, hcn] at this
          exact this
        have hcn2 : cn ≤ 2 ∧ k + cn ≤ n ∧ (cn = 2 ∨ k + cn = n) := by omega
        clear hcn
        unfold whV at hwh
        dsimp only at hwh
        go_wp2_with fail
        refine hwh.mono ?_
        rintro e w2 ⟨rfl, hw2⟩
        have hw2' := hw2.symm
        clear hw2 hwh
        subst hw2'
        have hkb : (k : Int) ≤ 10000 := by omega
        go_wp2_with fail
        rename World => wo
        go_loopw [11] (fun y wr => ∃ j : Nat, y = .int .i64 ((k + j : Nat) : Int) ∧ j ≤ cn ∧ Hid (goA L f (cn - j) (k + j) = A) ∧ Below wo.heap.size wo wr) (fun y _ => k + cn - (intOf y).toNat)
        case atStart => exact ⟨0, rfl, Nat.zero_le _, HR, Below.refl _ _⟩
        case round =>
          obtain ⟨j, rfl, hj, HG, hB⟩ := hrel
          have HBj : Hid (Below w.heap.size w wr) := below_new HBr.out hB
          have HBo : Hid (Below wo.heap.size wo wr) := hB
          obtain ⟨i2, hi2⟩ : ∃ i2, k + j = i2 := ⟨_, rfl⟩
          rw [hi2] at HG ⊢
          have hi2b : (i2 : Int) ≤ 20000 := by omega
          by_cases hjc : j < cn
          · obtain ⟨cj, hcj⟩ : ∃ cj, cn - j = cj + 1 := ⟨cn - j - 1, by omega⟩
            have h1 : (i2 : Int) < (k : Int) + 2 := by omega
            have h2 : (i2 : Int) < n := by omega
            have hi20 : (0 : Int) ≤ i2 := by omega
            obtain ⟨⟨u, s⟩, hu⟩ : ∃ x, L[i2]? = some x := ⟨_, List.getElem?_eq_getElem (by rw [HN.out]; omega)⟩
            obtain ⟨g, o, rfl, hnn, d0, d1⟩ := (HVr.out.below hB).at hu
            have hss := hsz _ (List.mem_of_getElem? hu)
            dsimp only at d0 d1 hss
            have hrd := qread_any s hss
            rw [hcj] at HG
            clear hnn hB
            go_wp2_with fail
            refine (hrd _).mono ?_
            rintro e w3 ⟨hB3, hans⟩
            clear hrd
            rcases hans with ⟨P, vP, rfl, hoP, hP1, hP2, hP3⟩ | ⟨rfl, hno⟩
            · have hnP : Nums P := ⟨hP1, hP2⟩
              have hrd := rd_some hnP hP3
              have hlP := rd_len hnP hP3
              obtain ⟨pP, cP, rfl, hIP⟩ := hoP.intsAt
              have hls := qleast_any hIP (by omega) f
              rw [firstV_of] at hls
              have HB3 : Hid (Below wo.heap.size wo w3 ∧ Below w.heap.size w w3) := ⟨below_new HBo.out hB3, below_new HBj.out hB3⟩
              generalize P.length = lP at hls ⊢
              clear hoP hP1 hP2 hP3 hlP hIP hB3
              cases hfn : firstN P f with
              | some y =>
                rw [hfn] at hls
                dsimp only at hls
                have HE : Hid (A = .tuple #[.int .i64 (y : Nat), .bool true, .int .i64 0]) := by show _ = _; rw [← HG.out]; exact goA_yes hu hrd hfn
                clear hfn hrd hnP hu
                go_wp2_with fail
                refine hls.mono ?_
                rintro e w4 ⟨rfl, hB4⟩
                clear hls
                go_wp2_with fail
                go_ret3
                rw [HE.out]
                exact ⟨rfl, below_new HB3.out.2 hB4⟩
              | none =>
                rw [hfn] at hls
                dsimp only at hls
                have HE : Hid (goA L f (cn - (j + 1)) (i2 + 1) = A) := by show _ = _; rw [← HG.out, goA_next hu hrd hfn, show cn - (j + 1) = cj by omega]
                clear hfn hrd hnP hu
                go_wp2_with fail
                refine hls.mono ?_
                rintro e w4 ⟨rfl, hB4⟩
                have HB4 : Hid (Below wo.heap.size wo w4) := below_new HB3.out.1 hB4
                clear hls hB4
                go_wp2_with fail
                exact ⟨⟨j + 1, by rw [show k + (j + 1) = i2 + 1 by omega]; go_num, by omega, by rw [show k + (j + 1) = i2 + 1 by omega]; exact HE, HB4.out⟩, by simp [intOf]; omega⟩
            · have HE : Hid (A = badV) := by show _ = _; rw [← HG.out]; exact goA_bad hu (rd_none hno)
              have HB3 : Hid (Below w.heap.size w w3) := below_new HBj.out hB3
              clear hno hu hB3
              go_wp2_with fail
              go_ret3
              rw [HE.out]
              exact ⟨rfl, HB3.out⟩
          · have hjc2 : j = cn := by omega
            have HE : Hid (A = noV) := by
              have := HG.out
              rw [show cn - j = 0 by omega, goA] at this
              exact this.symm
            clear hB
            rcases hcn2.2.2 with h2 | h2
            · have h1 : ¬ (i2 : Int) < (k : Int) + 2 := by omega
              go_wp2_with fail
              go_ret3
              rw [HE.out]
              exact ⟨rfl, HBj.out⟩
            · have h1 : ¬ (i2 : Int) < n := by omega
              by_cases h3 : (i2 : Int) < (k : Int) + 2
              · go_wp2_with fail
                go_ret3
                rw [HE.out]
                exact ⟨rfl, HBj.out⟩
              · go_wp2_with fail
                go_ret3
                rw [HE.out]
                exact ⟨rfl, HBj.out⟩
set_option maxRecDepth 8000 in
set_option maxHeartbeats 4000000 in
theorem hfind_any {w : World} {v : Value} {L : List Ck} (hv : ChunksAt w v L) (hl : L.length ≤ 10000) (hsz : ∀ c ∈ L, c.2.size ≤ 2147483648) (f : Int) (hf : f ≤ 9223372036854775807) :
    Calls Try.prog 22 #[v, .int .i64 f] w fun e w' => e = .returned (findA L f) ∧ Below w.heap.size w w' := by
  have hnot := run_notH
  have hup := uppers_any hv (by omega)
  obtain ⟨p0, c0, rfl⟩ := hv.shape
  obtain ⟨n, hn⟩ : ∃ n, L.length = n := ⟨_, rfl⟩
  have HN : Hid (L.length = n) := hn
  have hul : (L.map (·.1)).length ≤ 1000000 := by rw [List.length_map]; omega
  rw [hn] at hv hup hl ⊢
  clear hn
  have hni : (n : Int) ≤ 10000 := by omega
  obtain ⟨A, hA⟩ : ∃ A, findA L f = A := ⟨_, rfl⟩
  rw [hA]
  have HA : Hid (findA L f = A) := hA
  clear hA
  go_enter Try.func22, Try.ntmps22
  go_wp2_with fail
  refine hup.mono ?_
  rintro e w1 ⟨v1, rfl, hi1, hB1⟩
  clear hup
  have hwh := which_any hi1 hul f
  obtain ⟨p1, c1, rfl⟩ := hi1.lenH
  generalize (L.map (·.1)).length = ul at hwh ⊢
  obtain ⟨W, hW⟩ : ∃ W, which (L.map (·.1)) f = W := ⟨_, rfl⟩
  have HW : Hid (which (L.map (·.1)) f = W) := hW
  rw [hW] at hwh
  have HB1 : Hid (Below w.heap.size w w1) := hB1
  have HV1 : Hid (ChunksAt w1 (.slice p0 n c0) L) := hv.below hB1
  clear hW hi1 hul hB1
  cases W with
  | none =>
    have HR : Hid (A = noV) := by
      have := HA.out
      unfold findA at this
      rw [HW.out] at this
      exact this.symm
    unfold whV at hwh
    dsimp only at hwh
    go_wp2_with fail
    refine hwh.mono ?_
    rintro e w2 ⟨rfl, hw2⟩
    have hw2' := hw2.symm
    clear hw2 hwh
    subst hw2'
    go_wp2_with fail
    go_ret3
    rw [HR.out]
    exact ⟨rfl, HB1.out⟩
  | some k =>
    have hkn : k < n := by
      have := which_ltP HW.out
      rw [List.length_map, HN.out] at this
      exact this
    have hki : (k : Int) < n := by omega
    obtain ⟨cn, hcn⟩ : ∃ cn : Nat, min 2 (n - k) = cn := ⟨_, rfl⟩
    have HR : Hid (goA L f cn k = A) := by
      have := HA.out
      unfold findA at this
      rw [HW.out] at this
      dsimp only at this
      rw [HN.out, hcn] at this
      exact this
    have hmin : min (2 : Int) ((n : Int) - (k : Int)) = (cn : Int) := by omega
    have hcn2 : cn ≤ 2 ∧ k + cn ≤ n := by omega
    obtain ⟨m, hm⟩ : ∃ m : Nat, max f 0 = (m : Int) := ⟨(max f 0).toNat, by omega⟩
    have HM : Hid (max f 0 = (m : Int)) := hm
    have hkb : (k : Int) ≤ 10000 := by omega
    unfold whV at hwh
    dsimp only at hwh
    clear hcn hm
    go_wp2_with fail
    refine hwh.mono ?_
    rintro e w2 ⟨rfl, hw2⟩
    have hw2' := hw2.symm
    clear hw2 hwh
    subst hw2'
    go_wp2_with fail
    rename World => wo
    go_loopw [28] (fun y wr => ∃ j : Nat, y = .int .i64 (j : Nat) ∧ j ≤ cn ∧ Hid (goA L f (cn - j) (k + j) = A) ∧ Below wo.heap.size wo wr) (fun y _ => cn - (intOf y).toNat)
    case atStart => exact ⟨0, rfl, Nat.zero_le _, HR, Below.refl _ _⟩
    case round =>
      obtain ⟨j, rfl, hj, HG, hB⟩ := hrel
      have HBj : Hid (Below w.heap.size w wr) := below_new HB1.out hB
      have HBo : Hid (Below wo.heap.size wo wr) := hB
      by_cases hjc : j < cn
      · have hji : (j : Int) < cn := by omega
        obtain ⟨cj, hcj⟩ : ∃ cj, cn - j = cj + 1 := ⟨cn - j - 1, by omega⟩
        obtain ⟨⟨u, s⟩, hu⟩ : ∃ x, L[k + j]? = some x := ⟨_, List.getElem?_eq_getElem (by rw [HN.out]; omega)⟩
        obtain ⟨g, o, rfl, hnn, d0, d1⟩ := (HV1.out.below hB).at hu
        have hss := hsz _ (List.mem_of_getElem? hu)
        dsimp only at d0 d1 hss
        have hrd := read_any s hss
        rw [hcj] at HG
        have hkj : (k : Int) + (j : Int) < n := by omega
        clear hnn hB
        go_wp2_with fail
        refine (hrd _).mono ?_
        rintro e w3 ⟨hB3, hans⟩
        clear hrd
        rcases hans with ⟨M, b3, rfl, mo3, hs3, hb3, hm3, hbm⟩ | ⟨rfl, hno⟩
        · have hMb := hs3.view.map.bound
          have hnP := nums_of hMb
          have hrd := rd_some (x := s) hnP (by rw [ofN_mem hMb]; exact hbm)
          have hlt := least_any hs3.view f m HM.out (by have := HM.out; omega)
          have HB3 : Hid (Below wo.heap.size wo w3 ∧ Below w.heap.size w w3) := ⟨below_new HBo.out hB3, below_new HBj.out hB3⟩
          clear hB3 hs3 hb3 hm3 hbm
          go_wp2_with fail
          refine hlt.mono ?_
          rintro e w4 ⟨x4, b4, rfl, hle, hB4⟩
          have hff : firstV ((memFrom M 0).filter fun x : Nat => decide (f ≤ (x : Int))) = .tuple #[.int .i64 (x4 : Nat), .bool b4] := by
            rw [from_eq hMb, show f.toNat = m by have := HM.out; omega]
            exact least_first hMb hle
          rw [firstV_of] at hff
          have HB4 : Hid (Below wo.heap.size wo w4 ∧ Below w.heap.size w w4) := ⟨below_new HB3.out.1 hB4, below_new HB3.out.2 hB4⟩
          clear hlt hB4 hle
          cases hfn : firstN (memFrom M 0) f with
          | some y =>
            rw [hfn] at hff
            dsimp only at hff
            injection hff with hff
            have hf2 := congrArg Array.toList hff
            simp at hf2
            obtain ⟨hf3, hf4⟩ := hf2
            obtain rfl : y = x4 := by omega
            subst hf4
            clear hf3
            have HE : Hid (A = .tuple #[.int .i64 (y : Nat), .bool true, .int .i64 0]) := by show _ = _; rw [← HG.out]; exact goA_yes hu hrd hfn
            clear hfn hrd hnP hu hff hMb
            go_wp2_with fail
            go_ret3
            rw [HE.out]
            exact ⟨rfl, HB4.out.2⟩
          | none =>
            rw [hfn] at hff
            dsimp only at hff
            injection hff with hff
            have hf2 := congrArg Array.toList hff
            simp at hf2
            obtain ⟨hf3, hf4⟩ := hf2
            subst hf4
            have HE : Hid (goA L f (cn - (j + 1)) (k + (j + 1)) = A) := by show _ = _; rw [← HG.out, goA_next hu hrd hfn, show cn - (j + 1) = cj by omega]; rfl
            clear hfn hrd hnP hu hff hMb
            go_wp2_with fail
            exact ⟨⟨j + 1, by go_num, by omega, HE, HB4.out.1⟩, by simp [intOf]; omega⟩
        · have HE : Hid (A = badV) := by show _ = _; rw [← HG.out]; exact goA_bad hu (rd_none hno)
          have HB3 : Hid (Below w.heap.size w w3) := below_new HBj.out hB3
          clear hno hu hB3
          go_wp2_with fail
          go_ret3
          rw [HE.out]
          exact ⟨rfl, HB3.out⟩
      · have hji : ¬ (j : Int) < cn := by omega
        have HE : Hid (A = noV) := by
          have := HG.out
          rw [show cn - j = 0 by omega, goA] at this
          exact this.symm
        clear hB
        go_wp2_with fail
        go_ret3
        rw [HE.out]
        exact ⟨rfl, HBj.out⟩
end Go.Proofs.Ytiokbhbggpibpaa
