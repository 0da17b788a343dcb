/-
  Read.
-/
import Derived.Test.YtiokbhbggpibpaaBReadN
import Derived.Test.YtiokbhbggpibpaaBBitsW
import Derived.Deep.DeepMust
namespace Go.Proofs.Ytiokbhbggpibpaa
open Go Go.RowKit Go.Maps

theorem splitV.at {l : List Nat} {u : Nat} {p : Nat → Bool} {r : List Nat} (h : SplitOk l u p r) {v : Value} (hv : splitV l v) : ∃ q r', SplitOk l u q (numsB r') ∧ v = .tuple #[.agg (partA u (contA q)), .string r', .bool true] := by
  rcases hv with ⟨u', q, r', h1, h2⟩ | ⟨h1, _⟩
  · obtain ⟨e1, e2, e3⟩ := h1.one h
    subst e1
    exact ⟨q, r', h1, h2⟩
  · exact absurd h (h1 _ _ _)
theorem wpList_ldPCs {ops : Array Oper} {rest : List Oper} {d : Option Tmp} {x : Operand} {ty : TypeId} {po : String} {af : Array Edge} {a : Act} {w : World} {Q : Exit → Act → World → Prop} {b u : Nat} {cs : Array Value} {tt : TypeId} {gd : Option (Nat × Bool)} (htt : tt = 76) (hgd : gd = none) (hx : a.eval x = .pointer (some ⟨b, 1, none⟩)) {t : TypeId} (hh : Holds w b t (partA u cs)) (hc : IsC cs)
    (h : wpList Try.prog ops Q rest (a.put d (.agg cs)) w) : wpList Try.prog ops Q (Oper.mk d (.load tt x) ty po af gd :: rest) a w := by
  subst htt hgd
  exact wpList_ldPC rfl x rfl hx hh hc h
theorem wpList_stPs {ops : Array Oper} {rest : List Oper} {d : Option Tmp} {x y : Operand} {ty : TypeId} {po : String} {af : Array Edge} {a : Act} {w : World} {Q : Exit → Act → World → Prop} {b u : Nat} {cs : Array Value} {tt : TypeId} {gd : Option (Nat × Bool)} (htt : tt = 80) (hgd : gd = none) (hx : a.eval x = .pointer (some ⟨b, 0, none⟩)) (hy : a.eval y = .agg (partA u cs)) (hc : IsC cs) {t : TypeId} {old : Array Value} (hh : Holds w b t old) (ho' : old.size = 33)
    (h : ∀ w', Holds w' b t (partA u cs) → Only b w w' → w'.heap.size = w.heap.size → wpList Try.prog ops Q rest (a.put d undef) w') : wpList Try.prog ops Q (Oper.mk d (.store tt x y) ty po af gd :: rest) a w := by
  subst htt hgd
  exact wpList_stP rfl x y rfl hx hy hc hh ho' h
theorem toN_some {x : ByteArray} {u : Nat} {p : Nat → Bool} {r : List Nat} (h : SplitOk (numsB x) u p r) : ∃ i, i < 256 ∧ p i = true := SplitOk.some (l := x.data.toList) h
theorem numsB_toN (x : ByteArray) : numsB x = toN x.data.toList := rfl

set_option maxRecDepth 100000 in
set_option maxHeartbeats 2000000 in
theorem read_any (x : ByteArray) (hx : x.size ≤ 2147483648) (w : World) :
    Calls Try.prog 28 #[.string x] w fun e w' => Below w.heap.size w w' ∧ ((∃ M b, e = .returned (.tuple #[.pointer (some ⟨b, 0, none⟩), .int .i64 0]) ∧ ∃ mo, SetAt w' b mo M ∧ w.heap.size ≤ b ∧ (∀ m, mo = some m → w.heap.size ≤ m) ∧ bytesM M = x.data.toList) ∨
      (e = .returned (.tuple #[.pointer none, .int .i64 10]) ∧ ∀ N : Nat → Bool, (∀ n, N n = true → n < 2147483648) → bytesM N ≠ x.data.toList)) := by
  have hnw := new_any (w := w) (v := .slice none 0 0) (l := []) (.inl ⟨rfl, _, _, rfl⟩) (by simp) (by simp)
  rw [ofInts_nil] at hnw
  have hrd := RD.start x.data.toList
  go_enter Try.func28, Try.ntmps28
  go_wp2_with (first
    | (go_at_call 13; refine hnw.mono ?_; rintro e w1 ⟨b, rfl, mo, hs, hb, hmo, hB1⟩))
  go_loopw [0, 5] (fun y z wr => ∃ (r : ByteArray) (t : Int) (M : Nat → Bool) (mo : Option Nat), y = .string r ∧ z = .int .i64 t ∧ r.size ≤ 2147483648 ∧ SetAt wr b mo M ∧ (∀ m, mo = some m → w.heap.size ≤ m) ∧ Below w.heap.size w wr ∧ RD x.data.toList r.data.toList t M) (fun y _ _ => match y with | .string s => s.size | _ => 0)
  case atStart => exact ⟨x, -1, _, mo, rfl, rfl, hx, hs, hmo, hB1, hrd⟩
  case round =>
    obtain ⟨r, t, M, mo', rfl, rfl, hr, hsr, hmr, hBr, hD⟩ := hrel
    clear hrd hnw hs hmo hB1
    by_cases hr0 : r.size = 0
    · have hre : r.data.toList = [] := List.eq_nil_of_length_eq_zero (by rw [Array.length_toList]; exact hr0)
      have hre2 : r = ⟨#[]⟩ := by obtain ⟨d⟩ := r; simp at hre; rw [hre]
      rw [hre] at hD
      subst hre2
      go_wp2_with fail
      go_ret2
      exact ⟨hBr, .inl ⟨M, b, rfl, mo', hsr, hb, hmr, hD.done⟩⟩
    · have hne : r.toList.isEmpty = false := by
        rw [ByteArray.toList_eq]
        cases hl : r.data.toList with
        | nil => have h2 : r.data.toList.length = r.size := rfl; rw [hl] at h2; simp at h2; omega
        | cons a l => rfl
      have hnil : r.data.toList ≠ [] := fun e => by have h2 : r.data.toList.length = r.size := rfl; rw [e] at h2; simp at h2; omega
      have hsp := fun W => split_any r (fun _ => reads_bits) W hr
      by_cases hok : ∃ u p r', SplitOk (numsB r) u p r'
      · obtain ⟨u, p, r', hok⟩ := hok
        have hsv := fun v (hv : splitV (numsB r) v) => hv.at hok
        have HSV : Hid (∀ v, splitV (numsB r) v → ∃ q r'', SplitOk (numsB r) u q (numsB r'') ∧ v = .tuple #[.agg (partA u (contA q)), .string r'', .bool true]) := hsv
        have HOK : Hid (SplitOk (numsB r) u p r') := hok
        have HD : Hid (RD x.data.toList r.data.toList t M) := hD
        have huN := hok.low
        rw [NU_eq] at huN
        clear hsv hok hD
        have hbr : b < wr.heap.size := hsr.ptr.lt
        by_cases htu : t < u
        · have hni : ¬ (u : Int) ≤ t := by omega
          go_wp2_with (first
            | (go_at_call 48; refine (hsp _).mono ?_; rintro e w2 ⟨v, rfl, hv, hB2⟩; obtain ⟨q, r2, hq, rfl⟩ := HSV.out v hv; clear HSV hv hsp; have hC := IsC.mk q; have HQ : Hid (SplitOk (numsB r) u q (numsB r2)) := hq; clear hq; obtain ⟨W3, hW3⟩ : ∃ W3, World.alloc w2 (.cells zero33 80) = W3 := ⟨_, rfl⟩; have h3 : Holds W3 w2.heap.size 80 zero33 := (by rw [← hW3]; exact Holds.new _ _ _); have hB3 : Below w2.heap.size w2 W3 := (by rw [← hW3]; exact below_new1 _ _); rw [zero33_eq] at hW3; generalize hcs : contA q = cs at hC ⊢; have HCS : Hid (contA q = cs) := hcs; clear hcs)
            | ((with_reducible show wpList _ _ _ (Oper.mk _ (Op.store _ _ _) _ _ _ _ :: _) _ _); go_must (refine wpList_stP (u := u) (cs := cs) rfl _ _ rfl rfl rfl hC h3 rfl ?_; intro W4 h4 hO4 hs4; clear hs4; have hB24 : Below wr.heap.size wr W4 := Only.fresh (below_new hB2 hB3) hO4 hB2.size; have hc4 : W4.cell? ⟨w2.heap.size, 0, none⟩ = some (.int .i64 (u : Nat)) := (h4.cell 0).trans (partA_zero u cs); have H4 : Hid (Holds W4 w2.heap.size 80 (partA u cs)) := h4; have HB24 : Hid (Below wr.heap.size wr W4) := hB24; have HS2 : Hid (wr.heap.size ≤ w2.heap.size) := hB2.size; have HC : Hid (IsC cs) := hC; clear hW3 h3 hO4 hB3 h4 hB24 hB2 hC))
            | ((with_reducible refine wpList_ldPCs (u := u) (cs := cs) (b := w2.heap.size) ?_ ?_ ?_ H4.out HC.out ?_); (exact rfl); (exact rfl); (exact rfl)))
          have hpt := put_any (hsr.below HB24.out) (u := u) (by rw [NU_eq]; exact huN) (toN_some HQ.out)
          rw [HCS.out] at hpt
          refine hpt.mono ?_
          rintro e w5 ⟨rfl, mo5, hs5, hN5, hO5, _⟩
          have h24 := HB24.out.size
          have hmlt := hsr.map.lt
          have h5 : w5.heap[w2.heap.size]? = W4.heap[w2.heap.size]? := hO5.block _ H4.out.lt (by have := HS2.out; omega) (fun e => by have := hmlt _ e.symm; have := HS2.out; omega)
          have h5' : Holds w5 w2.heap.size 80 (partA u cs) := h5.trans H4.out
          have hc5 : w5.cell? ⟨w2.heap.size, 0, none⟩ = some (.int .i64 (u : Nat)) := (h5'.cell 0).trans (partA_zero u cs)
          have hBw : Below w.heap.size w w5 := OnlyS.fresh (hBr.trans (HB24.out.mono hBr.size)) hO5 hb hmr
          have HN5 : Hid (Newer W4 mo' mo5) := hN5
          clear h5 hmlt hO5 hN5 hpt h5'
          go_wp2_with fail
          have hlen := HQ.out.rest
          have hl4 := HQ.out.len
          have hsz : r2.size < r.size := by
            have e := congrArg List.length hlen
            rw [numsB_len, List.length_drop, numsB_len] at e
            rw [numsB_len] at hl4
            omega
          refine ⟨⟨r2, u, _, mo5, rfl, rfl, by omega, hs5, fun m hm => ?_, hBw, HD.out.step (l := r.data.toList) (r := r2.data.toList) HQ.out htu⟩, hsz⟩
          rcases HN5.out with e | ⟨m', e, hm'⟩
          · exact hmr m (e ▸ hm)
          · rw [e] at hm; injection hm with hm; have := HB24.out.size; have := hBr.size; omega
        · have hni : (u : Int) ≤ t := by omega
          go_wp2_with (first
            | (go_at_call 48; refine (hsp _).mono ?_; rintro e w2 ⟨v, rfl, hv, hB2⟩; obtain ⟨q, r2, hq, rfl⟩ := HSV.out v hv; clear HSV hv hsp; have hC := IsC.mk q; have HQ : Hid (SplitOk (numsB r) u q (numsB r2)) := hq; clear hq; obtain ⟨W3, hW3⟩ : ∃ W3, World.alloc w2 (.cells zero33 80) = W3 := ⟨_, rfl⟩; have h3 : Holds W3 w2.heap.size 80 zero33 := (by rw [← hW3]; exact Holds.new _ _ _); have hB3 : Below w2.heap.size w2 W3 := (by rw [← hW3]; exact below_new1 _ _); rw [zero33_eq] at hW3; generalize hcs : contA q = cs at hC ⊢; have HCS : Hid (contA q = cs) := hcs; clear hcs)
            | ((with_reducible show wpList _ _ _ (Oper.mk _ (Op.store _ _ _) _ _ _ _ :: _) _ _); go_must (refine wpList_stP (u := u) (cs := cs) rfl _ _ rfl rfl rfl hC h3 rfl ?_; intro W4 h4 hO4 hs4; clear hs4; have hB24 : Below wr.heap.size wr W4 := Only.fresh (below_new hB2 hB3) hO4 hB2.size; have hc4 : W4.cell? ⟨w2.heap.size, 0, none⟩ = some (.int .i64 (u : Nat)) := (h4.cell 0).trans (partA_zero u cs); have H4 : Hid (Holds W4 w2.heap.size 80 (partA u cs)) := h4; have HB24 : Hid (Below wr.heap.size wr W4) := hB24; have HS2 : Hid (wr.heap.size ≤ w2.heap.size) := hB2.size; have HC : Hid (IsC cs) := hC; clear hW3 h3 hO4 hB3 h4 hB24 hB2 hC))
            | ((with_reducible refine wpList_ldPCs (u := u) (cs := cs) (b := w2.heap.size) ?_ ?_ ?_ H4.out HC.out ?_); (exact rfl); (exact rfl); (exact rfl)))
          go_ret2
          refine ⟨hBr.trans (HB24.out.mono hBr.size), .inr ⟨rfl, HD.out.bad hnil fun u' p' r' h => ?_⟩⟩
          have e := (h.one HOK.out).1
          rw [e]; exact hni
      · have hno : ∀ u p r', ¬ SplitOk (numsB r) u p r' := fun u p r' h => hok ⟨u, p, r', h⟩
        have HNO : Hid (∀ u p r', ¬ SplitOk (numsB r) u p r') := hno
        have HD : Hid (RD x.data.toList r.data.toList t M) := hD
        have HB2 : Hid (∀ v, splitV (numsB r) v → ∃ u p r', v = .tuple #[.agg (partA u (contA p)), .string r', .bool false]) := fun v hv => hv.bad hno
        clear hok hno hD
        go_wp2_with (first
          | (go_at_call 48; refine (hsp _).mono ?_; rintro e w2 ⟨v, rfl, hv, hB2⟩; obtain ⟨u, p, r2, rfl⟩ := HB2.out v hv; clear hsp hv HB2; have hC := IsC.mk p; generalize contA p = cs at hC ⊢; obtain ⟨W3, hW3⟩ : ∃ W3, World.alloc w2 (.cells zero33 80) = W3 := ⟨_, rfl⟩; have h3 : Holds W3 w2.heap.size 80 zero33 := (by rw [← hW3]; exact Holds.new _ _ _); have hB3 : Below w2.heap.size w2 W3 := (by rw [← hW3]; exact below_new1 _ _); rw [zero33_eq] at hW3)
          | ((with_reducible show wpList _ _ _ (Oper.mk _ (Op.store _ _ _) _ _ _ _ :: _) _ _); go_must (refine wpList_stP (u := u) (cs := cs) rfl _ _ rfl rfl rfl hC h3 rfl ?_; intro W4 h4 hO4 hs4; have hB24 : Below wr.heap.size wr W4 := Only.fresh (below_new hB2 hB3) hO4 hB2.size; have HB24 : Hid (Below wr.heap.size wr W4) := hB24; clear hs4 hW3 h3 hO4 hB3 h4 hB24 hB2 hC)))
        go_ret2
        exact ⟨hBr.trans (HB24.out.mono hBr.size), .inr ⟨rfl, HD.out.bad hnil fun u' p' r' h => absurd h (HNO.out _ _ _)⟩⟩
end Go.Proofs.Ytiokbhbggpibpaa
