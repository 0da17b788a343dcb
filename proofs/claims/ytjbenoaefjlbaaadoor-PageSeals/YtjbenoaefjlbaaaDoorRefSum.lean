/-
  What the call of the document's Sum does.
-/
import Derived.Test.YtjbenoaefjlbaaaDoorRefPerm
import Derived.Test.YtjbenoaefjlbaaaDoorSumPure
import Derived.Laws.AppendOwn
import Derived.Laws.OwnMore
import Derived.Lib.AppendStr
namespace Go.Proofs.YtjbenoaefjlbaaaDoor
open Go.RowKit Go.Lib

theorem infoU8i : ∃ i, Tryd.prog.info? 5 = some i ∧ i.zero = some (.int .u8 0) ∧ i.size = 1 ∧ i.bytes = 1 := by
  have h : (Tryd.prog.info? 5).map (fun i => (i.zero, i.size, i.bytes)) = some (some (.int .u8 0), 1, 1) := by kernel_rfl
  cases hq : Tryd.prog.info? 5 with
  | none => rw [hq] at h; cases h
  | some i =>
    rw [hq] at h
    simp only [Option.map_some, Option.some.injEq, Prod.mk.injEq] at h
    exact ⟨i, rfl, h.1, h.2.1, h.2.2⟩
theorem underString : Tryd.prog.underlying 9 = some .string := by kernel_rfl
theorem underBytesR : Tryd.prog.underlying 42 = some (.slice 5) := by kernel_rfl
theorem strCells_octs (x : ByteArray) : strCells x = octs x.data.toList := rfl

def sliceLen : Value → Nat
  | .slice _ n _ => n
  | _ => 0
/-- A slice of bytes that the call itself has made. -/
theorem owned_slice {w : World} {base n : Nat} {v : Value} {l : List UInt8} (h : w.ownsRow base 5 1 v n (octs l)) (hn : 0 < n) :
    ∃ g cap, v = .slice (some ⟨g, 0, none⟩) n cap ∧ base ≤ g ∧ g < w.heap.size := by
  rcases h.2 with ⟨_, h0⟩ | ⟨g, cap, cur, h1, h2, h3, _⟩
  · omega
  · exact ⟨g, cap, h1, h2, (Array.getElem?_eq_some_iff.1 h3).1⟩
theorem Below.grownW {B : Nat} {a w w' : World} {row : Option Nat} (h : Below B a w) (hg : w.grownBy w' row) (hB : B ≤ w.heap.size) (hr : ∀ k, row = some k → B ≤ k) : Below B a w' := h.grown hg hB hr
theorem Holds.grown {w w' : World} {b : Nat} {t : TypeId} {cs : Array Value} {row : Option Nat} (h : Holds w b t cs) (hg : w.grownBy w' row) (hb : some b ≠ row) : Holds w' b t cs := by
  have := h.lt
  unfold Holds at *
  rw [hg.block b this hb]; exact h
theorem one_news (w : World) (v : Value) (j : Nat) (u : Value) (h : [v][j]? = some u) : (w.alloc (.cells #[v] 5)).cell? ((⟨w.heap.size, 0, none⟩ : Addr).add j) = some u := by
  have hj : j = 0 := by
    rcases j with _ | j
    · rfl
    · simp at h
  subst hj
  rw [Addr.add_mid, (Holds.new w 5 #[v]).cell]
  exact h

theorem oct_or (c d : UInt8) : bits .or .u8 (oct c) (oct d) = oct (c ||| d) := by
  unfold oct
  have hc := c.toNat_lt
  have hd := d.toNat_lt
  have hx : c.toNat ||| d.toNat < 2 ^ 8 := Nat.or_lt_two_pow (by omega) (by omega)
  have h1 : (BitVec.ofInt 8 (c.toNat : Int)).toNat = c.toNat := by
    rw [BitVec.ofInt_natCast, BitVec.toNat_ofNat]; exact Nat.mod_eq_of_lt (by omega)
  have h2 : (BitVec.ofInt 8 (d.toNat : Int)).toNat = d.toNat := by
    rw [BitVec.ofInt_natCast, BitVec.toNat_ofNat]; exact Nat.mod_eq_of_lt (by omega)
  show IntKind.u8.wrap ((BitVec.ofInt 8 (c.toNat : Int) ||| BitVec.ofInt 8 (d.toNat : Int)).toNat : Int) = _
  rw [BitVec.toNat_or, h1, h2, UInt8.toNat_or]
  simp [IntKind.wrap, IntKind.bits, IntKind.signed]
  omega
theorem oct_or128 (c : UInt8) : bits .or .u8 (oct c) 128 = oct (c ||| 128) := oct_or c 128
theorem info25R : (Tryd.prog.info? 56).map (·.size) = some 25 := by kernel_rfl

set_option maxRecDepth 4000 in
set_option maxHeartbeats 4000000 in
theorem refSum_any (x : ByteArray) (w : World) (hx : x.size ≤ 3000) :
    Calls Tryd.prog 24 #[.string x] w fun e w' => e = .returned (.agg (bytesA 32 (hashOf x.data.toList))) ∧ Below w.heap.size w w' := by
  obtain ⟨i8, hi, hiz, his, hib⟩ := infoU8i
  have HI : Hid (Tryd.prog.info? 5 = some i8 ∧ i8.zero = some (.int .u8 0) ∧ i8.size = 1 ∧ i8.bytes = 1) := ⟨hi, hiz, his, hib⟩
  clear hi hiz his hib
  obtain ⟨n, hn⟩ : ∃ n, n = w.heap.size := ⟨_, rfl⟩
  have HN : Hid (n = w.heap.size) := hn
  obtain ⟨M, hM⟩ : ∃ M, M = x.data.toList := ⟨_, rfl⟩
  have hML : M.length = x.size := by rw [hM]; rfl
  have HM : Hid (M = x.data.toList) := hM
  have HML : Hid (M.length = x.size) := hML
  have hmax : (3000 : Nat) + 200 ≤ maxLen := by decide
  clear hM hML hn
  go_enter Tryd.func24, Tryd.ntmps24
  go_wp2_with (first
    | (refine wpList_append_own_string _ rfl _ _ 42 9 rfl (n + 1) 5 i8 underBytesR underString HI.out.1 HI.out.2.1 HI.out.2.2.1 HI.out.2.2.2 (.slice none 0 0) 0 [] rfl (World.ownsRow_nil _ _ _ _) x rfl (by omega) (by omega) (by rw [World.size_alloc, HN.out]; exact Nat.le_refl _) ?_
       intro v1 w1 own1 gr1 _
       rw [Nat.zero_add, List.nil_append, strCells_octs, ← HM.out] at own1
       have hB1 : Below w.heap.size w w1 := Below.grownW ((Below.refl _ _).alloc (Nat.le_refl _) _) gr1 (by simp) (fun k hk => by simp [Value.ownBlock] at hk)
       have gr : Holds w1 n 44 (bytesA 32 fun _ => 0) := by rw [HN.out]; exact Holds.grown (Holds.new w 44 (bytesA 32 fun _ => 0)) gr1 (by simp [Value.ownBlock])
       have hs1 : n + 1 ≤ w1.heap.size := by have := gr1.size; rw [World.size_alloc] at this; have := HN.out; omega
       clear gr1)
    | (refine wpList_append_own _ rfl _ _ 42 rfl (n + 1) 5 i8 (.int .u8 0) 1 1 underBytesR HI.out.1 HI.out.2.1 HI.out.2.2.1 HI.out.2.2.2 rfl (by omega) v1 x.size (octs M) rfl (own1.alloc _) ⟨w1.heap.size, 0, none⟩ 1 1 [.int .u8 1] rfl rfl (one_news w1 _) (by intro u hu; simp at hu; subst hu; rfl) (by omega) (by omega) (by rw [World.size_alloc]; omega) ?_
       intro v2 w2 own2 gr2 _
       have own2' : w2.ownsRow (n + 1) 5 1 v2 (x.size + 1) (octs (padL M 0)) := by
         have e : octs (padL M 0) = octs M ++ [.int .u8 1] := by simp [padL, octs]; rfl
         rw [e]; exact own2
       have hr2 : ∀ k, v1.ownBlock = some k → n + 1 ≤ k := fun k hk => (own1.lt k hk).1
       have hB2 : Below w.heap.size w w2 := Below.grownW (hB1.alloc hB1.size _) gr2 (Nat.le_trans hB1.size (by simp)) (fun k hk => by have := hr2 k hk; have := HN.out; omega)
       have g2 : Holds w2 n 44 (bytesA 32 fun _ => 0) := Holds.grown (gr.alloc _) gr2 (fun q => by have := hr2 n q.symm; omega)
       have hs2 : n + 1 ≤ w2.heap.size := by have := gr2.size; rw [World.size_alloc] at this; omega
       clear gr2 own2 hr2 own1 hB1 gr hs1)
    | fail)
  have HX : Hid (x.size ≤ 3000) := hx
  obtain ⟨z, hz⟩ : ∃ z, z = 135 - x.size % 136 := ⟨_, rfl⟩
  have HZ : Hid (z = 135 - x.size % 136) := hz
  clear hz
  rw [← HN.out]
  go_loopw [3] (fun sv wr => ∃ (k : Nat) (v : Value), k ≤ z ∧ sv = v ∧ Below w.heap.size w wr ∧ Holds wr n 44 (bytesA 32 fun _ => 0) ∧ n + 1 ≤ wr.heap.size ∧ wr.ownsRow (n + 1) 5 1 v (x.size + 1 + k) (octs (padL M k))) (fun sv _ => padN M - sliceLen sv)
  case atStart => exact ⟨0, v2, by omega, rfl, hB2, g2, hs2, own2'⟩
  case round =>
    clear own2' hB2 g2 hs2
    obtain ⟨k, v, hk, rfl, hB, hg, hs, own⟩ := hrel
    obtain ⟨g, cap, rfl, hgb, hgl⟩ := owned_slice own (by omega)
    obtain ⟨T, hT⟩ : ∃ T, x.size + 1 + k = T := ⟨_, rfl⟩
    rw [hT] at own ⊢
    have HT : Hid (x.size + 1 + k = T) := hT
    have hTs : T ≤ 3150 := by have := HX.out; have := HZ.out; omega
    have hTi : (T : Int) ≤ 3150 := by omega
    have hTp : 1 ≤ T := by omega
    clear hT
    by_cases hlt : k < z
    · obtain ⟨r, hr⟩ : ∃ r, r = T % 136 := ⟨_, rfl⟩
      have htm : (T : Int).tmod 136 = (r : Int) := by rw [Int.tmod_eq_emod_of_nonneg (by omega)]; omega
      have hr0 : (0 : Int) < r := by have := HT.out; have := HZ.out; omega
      have hr1 : ((r : Int) == 0) = false := by simp; omega
      have OWN : Hid (wr.ownsRow (n + 1) 5 1 (.slice (some ⟨g, 0, none⟩) T cap) T (octs (padL M k))) := own
      clear hr own
      go_wp2_with (first
        | (refine wpList_append_own _ rfl _ _ 42 rfl (n + 1) 5 i8 (.int .u8 0) 1 1 underBytesR HI.out.1 HI.out.2.1 HI.out.2.2.1 HI.out.2.2.2 rfl (by omega) (.slice (some ⟨g, 0, none⟩) T cap) T (octs (padL M k)) rfl (World.ownsRow.alloc OWN.out _) ⟨wr.heap.size, 0, none⟩ 1 1 [.int .u8 0] rfl rfl (one_news wr _) (by intro u hu; simp at hu; subst hu; rfl) (by omega) (by omega) (by rw [World.size_alloc]; omega) ?_
           intro v3 w3 own3 gr3 _
           have own3' : w3.ownsRow (n + 1) 5 1 v3 (x.size + 1 + (k + 1)) (octs (padL M (k + 1))) := by
             have e : octs (padL M (k + 1)) = octs (padL M k) ++ [.int .u8 0] := by
               unfold padL
               rw [List.replicate_succ', ← List.append_assoc]
               simp [octs]; rfl
             rw [e, show x.size + 1 + (k + 1) = T + 1 by have := HT.out; omega]; exact own3
           have hB3 : Below w.heap.size w w3 := Below.grownW (hB.alloc hB.size _) gr3 (Nat.le_trans hB.size (by simp)) (fun q hq => by simp [Value.ownBlock] at hq; have := HN.out; omega)
           have g3 : Holds w3 n 44 (bytesA 32 fun _ => 0) := Holds.grown (hg.alloc _) gr3 (by simp [Value.ownBlock]; omega)
           have hs3 : n + 1 ≤ w3.heap.size := by have := gr3.size; rw [World.size_alloc] at this; omega
           obtain ⟨g3a, cap3, rfl, _, _⟩ := owned_slice own3' (by omega)
           clear gr3 own3)
        | fail)
      go_roundw
      case rel => exact ⟨k + 1, _, by omega, rfl, hB3, g3, hs3, own3'⟩
      case measure =>
        show padN M - (x.size + 1 + (k + 1)) < padN M - T
        have h1 := HML.out
        have h2 := HT.out
        have h3 := HZ.out
        unfold padN
        omega
    · have hkz : k = z := by omega
      have hTN : T = padN M := by
        have h1 := HML.out
        have h2 := HT.out
        have h3 := HZ.out
        unfold padN
        omega
      have htm : (T : Int).tmod 136 = 0 := by rw [Int.tmod_eq_emod_of_nonneg (by omega)]; have := HT.out; have := HZ.out; omega
      have c1 := own.cellAt (T - 1) (by omega)
      rw [octs_get _ _ (by rw [padL_length]; have := HML.out; have := HT.out; omega)] at c1
      have hfz := own.frozenAt
      have OWN : Hid (wr.ownsRow (n + 1) 5 1 (.slice (some ⟨g, 0, none⟩) T cap) T (octs (padL M k))) := own
      have HTN : Hid (T = padN M) := hTN
      have hT1 : (1 : Int) ≤ T := by have := HT.out; omega
      obtain ⟨U, hU⟩ : ∃ U, T = U + 1 := ⟨T - 1, by omega⟩
      have hUi : ((T : Int) - 1) = (U : Int) := by omega
      have hUT : (U : Int) < T := by omega
      rw [show T - 1 = U by omega] at c1
      obtain ⟨cl, hcl⟩ : ∃ cl, (padL M k).getD U 0 = cl := ⟨_, rfl⟩
      rw [hcl] at c1
      have HCL : Hid ((padL M k).getD U 0 = cl) := hcl
      have HU : Hid (T = U + 1) := hU
      clear own hTN hkz hU hcl
      go_wp2_with fail
      rw [oct_or128]
      have hby : ∀ i, i < T → (wr.setCell ⟨g, U, none⟩ (.int .u8 (oct (cl ||| 128)))).cell? ⟨g, i, none⟩ = some (.int .u8 (oct (padB M i))) := fun i hi => by
        have hN := HTN.out
        have hu := HU.out
        have hb := padL_last M k i (by have := HML.out; have := HT.out; omega) (by omega)
        by_cases e : i = U
        · subst e
          rw [if_pos (by omega), HCL.out] at hb
          rw [World.cell?_setCell_same _ _ _ c1, ← hb]
        · rw [if_neg (by omega)] at hb
          rw [World.cell?_setCell_other _ _ _ _ (fun q => e (by simpa using q.symm)), OWN.out.cellAt i (by omega), octs_get _ _ (by rw [padL_length]; have := HML.out; have := HT.out; omega), hb]
      have hB2 : Below w.heap.size w (wr.setCell ⟨g, U, none⟩ (.int .u8 (oct (cl ||| 128)))) := hB.setCell (by have := HN.out; show _ ≤ g; omega) _
      have hg2 : Holds (wr.setCell ⟨g, U, none⟩ (.int .u8 (oct (cl ||| 128)))) n 44 (bytesA 32 fun _ => 0) := Holds.other hg _ _ (by show n ≠ g; omega)
      have hz2 : (wr.setCell ⟨g, U, none⟩ (.int .u8 (oct (cl ||| 128)))).heap.size = wr.heap.size := World.size_setCell _ _ _
      generalize wr.setCell ⟨g, U, none⟩ (.int .u8 (oct (cl ||| 128))) = w2 at hby hB2 hg2 hz2 ⊢
      obtain ⟨a, ha⟩ : ∃ a, a = wr.heap.size := ⟨_, rfl⟩
      rw [← ha] at hgl hs hz2 ⊢
      have HZ2 : Hid (w2.heap.size = a) := hz2
      clear ha c1 hfz OWN hB hg hz2 HCL htm hUi hUT HU
      obtain ⟨Q, hQ⟩ : ∃ Q, Q = M.length / 136 + 1 := ⟨_, rfl⟩
      have HQ : Hid (Q = M.length / 136 + 1) := hQ
      have hTQ : T = 136 * Q := by rw [HTN.out, hQ]; rfl
      have HTQ : Hid (T = 136 * Q) := hTQ
      have hga : g ≠ a := by omega
      have hna : n ≠ a := by omega
      clear hQ hTQ HTN
      go_loopw [5] (fun y wr => ∃ q : Nat, q ≤ Q ∧ y = .int .i64 (136 * q : Nat) ∧ Below w.heap.size w wr ∧ Holds wr n 44 (bytesA 32 fun _ => 0) ∧ (∀ i, i < T → wr.cell? ⟨g, i, none⟩ = some (.int .u8 (oct (padB M i)))) ∧ g < wr.heap.size ∧ Holds wr a 56 (lanesA (padS M q))) (fun y _ => T - (intOf y).toNat)
      case atStart =>
        refine ⟨0, by omega, rfl, hB2.alloc hB2.size _, hg2.alloc _, fun i hi => ?_, by rw [World.size_alloc, HZ2.out]; omega, ?_⟩
        · rw [World.cell?_alloc_lt _ _ _ (by rw [HZ2.out]; exact hgl)]; exact hby i hi
        · have h := Holds.new w2 56 (lanesA fun _ => 0)
          rw [HZ2.out] at h
          exact h
      case round =>
        clear hby hB2 hg2
        obtain ⟨q, hq, rfl, hB, hg, hby, hgw, hh⟩ := hrel
        obtain ⟨A, hA⟩ : ∃ A, 136 * q = A := ⟨_, rfl⟩
        rw [hA]
        have HA : Hid (136 * q = A) := hA
        clear hA
        by_cases hlt : q < Q
        · have hAT : (A : Int) < T := by have := HA.out; have := HTQ.out; omega
          have hA2 : A + 136 ≤ T := by have := HA.out; have := HTQ.out; omega
          go_wp2_with fail
          go_loopw [6] (fun y wr => ∃ j : Nat, j ≤ 136 ∧ y = .int .i64 j ∧ Below w.heap.size w wr ∧ Holds wr n 44 (bytesA 32 fun _ => 0) ∧ (∀ i, i < T → wr.cell? ⟨g, i, none⟩ = some (.int .u8 (oct (padB M i)))) ∧ g < wr.heap.size ∧ Holds wr a 56 (lanesA (xfill (padS M q) (fun i => padB M (136 * q + i)) j))) (fun y _ => 136 - (intOf y).toNat)
          case atStart => exact ⟨0, by omega, rfl, hB, hg, hby, hgw, hh.congr (lanesA_congr fun i _ => (xfill_none _ _ i).symm)⟩
          case round =>
            clear hB hg hby hgw hh
            obtain ⟨j, hj, rfl, hB, hg, hby, hgw, hh⟩ := hrel
            by_cases hj136 : j < 136
            · have hji : (j : Int) < 136 := by omega
              have cb := hby (A + j) (by omega)
              have ca := hh.laneAt (j / 8) (by omega)
              have hf := hh.frozen
              have hstep := xfill_step (padS M q) (fun i => padB M (136 * q + i)) a 56 wr.drew j hj136 hh.drew
              obtain ⟨c, hc⟩ : ∃ c, padB M (136 * q + j) = c := ⟨_, rfl⟩
              obtain ⟨L, hL⟩ : ∃ L, xfill (padS M q) (fun i => padB M (136 * q + i)) j (j / 8) = L := ⟨_, rfl⟩
              rw [← HA.out, hc] at cb
              rw [HA.out] at cb
              rw [hL] at ca hstep
              rw [hc] at hstep
              have hbi : (A : Int) + j < T := by omega
              have c0 := oct_nn c
              have c2 := oct_le c
              have HST : Hid _ := hstep
              have HBY : Hid (∀ i, i < T → wr.cell? ⟨g, i, none⟩ = some (.int .u8 (oct (padB M i)))) := hby
              clear hstep hc hL hh hby
              go_wp2_with fail
              refine wp_region_qtail 20 mixedP (by kernel_rfl) ?_
              simp only [List.take_succ_cons, List.take_zero, List.drop_succ_cons, List.drop_zero]
              repeat (go_big_quiet_step (fail))
              refine wpQuiet_nil ?_
              go_wp2
              go_roundw
              case rel =>
                rw [oct_wide, lane_shl, lane_xor]
                refine ⟨j + 1, by omega, rfl, (Below.setCell hB (by have := HN.out; show _ ≤ a; omega) _).drew, Holds.drew (Holds.other hg _ _ hna), fun i hi => ?_, by rw [World.size_drew, World.size_setCell]; exact hgw, HST.out⟩
                rw [World.cell?_drew, World.cell?_setCell_other _ _ _ _ (fun q => hga (congrArg Addr.block q).symm)]
                exact HBY.out i hi
              case measure => simp [intOf]; omega
            · have hji : ¬ (j : Int) < 136 := by omega
              have hjj : j = 136 := by omega
              subst hjj
              have h4 : Holds wr a 56 (lanesA (mixUp (padS M q) (fun i => padB M (136 * q + i)) 17)) := hh.congr (lanesA_congr fun i _ => xfill_all _ _ i)
              obtain ⟨X, hX⟩ : ∃ X, X = mixUp (padS M q) (fun i => padB M (136 * q + i)) 17 := ⟨_, rfl⟩
              rw [← hX] at h4
              have HX2 : Hid (padS M (q + 1) = perm X) := by rw [hX]; rfl
              clear hh hj hX
              go_wp2_with (first
                | (refine wpList_loadH rfl 56 _ rfl a rfl 56 (lanesA X) _ h4 Tryd.underlying56 rfl (by rw [lanesA_size]; exact info25R) ?_)
                | fail)
              refine (refPermute_any X wr).mono ?_
              rintro e w4 ⟨rfl, hB4⟩
              have h5 := Below.holds hB4 h4
              have g5 := Below.holds hB4 hg
              have hBB5 := hB.trans (hB4.mono hB.size)
              have hby5 : ∀ i, i < T → w4.cell? ⟨g, i, none⟩ = some (.int .u8 (oct (padB M i))) := fun i hi => by rw [hB4.cell (p := ⟨g, i, none⟩) hgw]; exact hby i hi
              have hgw5 : g < w4.heap.size := Nat.lt_of_lt_of_le hgw hB4.size
              have hin : (Tryd.prog.info? 56).map (·.size) = some (lanesA (perm X)).size := by rw [lanesA_size]; exact info25R
              have hzs : (lanesA X).size = (lanesA (perm X)).size := by rw [lanesA_size, lanesA_size]
              have hon := lanesA_one (perm X)
              generalize hcz : lanesA (perm X) = cz at hin hzs hon ⊢
              have HCZ : Hid (lanesA (perm X) = cz) := hcz
              clear hcz h4 hg hB hby hgw hB4
              dsimp only
              go_wp2_with (first
                | (refine wpList_storeH rfl 56 _ _ rfl a cz rfl rfl 56 _ h5 hin hzs hon ?_
                   intro w5 h6 o6 z6
                   have g6 := o6.holds g5 hna
                   have hBB6 : Below w.heap.size w w5 := Only.fresh hBB5 o6 (by have := HN.out; omega)
                   have hby6 : ∀ i, i < T → w5.cell? ⟨g, i, none⟩ = some (.int .u8 (oct (padB M i))) := fun i hi => (World.cell?_of_block (w := w4) (o6.block g hgw5 hga)).trans (hby5 i hi)
                   have hgw6 : g < w5.heap.size := Nat.lt_of_lt_of_le hgw5 o6.size
                   rw [← HCZ.out] at h6
                   have HBY6 : Hid (∀ i, i < T → w5.cell? ⟨g, i, none⟩ = some (.int .u8 (oct (padB M i)))) := hby6
                   clear h5 z6 g5 hBB5 hby5 hgw5 o6 hby6)
                | fail)
              go_roundw
              case rel =>
                refine ⟨q + 1, by omega, ?_, hBB6, g6, HBY6.out, hgw6, by rw [HX2.out]; exact h6⟩
                have := HA.out
                rw [show 136 * (q + 1) = A + 136 by omega]; rfl
              case measure => have := HA.out; have := HTQ.out; simp [intOf]; omega
        · have hqq : q = Q := by omega
          have hAT : ¬ (A : Int) < T := by have := HA.out; have := HTQ.out; omega
          subst hqq
          obtain ⟨Z, hZ⟩ : ∃ Z, Z = padS M q := ⟨_, rfl⟩
          rw [← hZ] at hh
          have HZZ : Hid (Z = padS M q) := hZ
          clear hZ hby
          go_wp2_with fail
          obtain ⟨o, ho⟩ : ∃ o, o = wr.heap.size := ⟨_, rfl⟩
          have hno : n < o := by rw [ho]; exact hg.lt
          have hao : a < o := by rw [ho]; exact hh.lt
          rw [← ho]
          have HO : Hid (o = wr.heap.size) := ho
          clear ho hgw
          go_loopw [8] (fun y w5 => ∃ k : Nat, k ≤ 32 ∧ y = .int .i64 k ∧ Below w.heap.size w w5 ∧ Holds w5 n 44 (bytesA 32 fun _ => 0) ∧ Holds w5 a 56 (lanesA Z) ∧ Holds w5 o 44 (bytesA 32 fun i => if i < k then byteAt Z i else 0)) (fun y _ => 32 - (intOf y).toNat)
          case atStart =>
            refine ⟨0, by omega, rfl, hB.alloc hB.size _, hg.alloc _, hh.alloc _, ?_⟩
            rw [HO.out]; exact (Holds.new wr 44 (bytesA 32 fun _ => 0)).congr (bytesA_congr fun i _ => by simp)
          case round =>
            clear hB hg hh
            obtain ⟨k, hk, rfl, hB, hg, hh, hr⟩ := hrel
            by_cases hlt : k < 32
            · have hk1 : (k : Int) < 32 := by omega
              have hck := hh.laneAt (k / 8) (by omega)
              have hrk := hr.byteCell k hlt
              have hf := hr.frozen
              have HR : Hid (Holds wr o 44 (bytesA 32 fun i => if i < k then byteAt Z i else 0)) := hr
              have hl0 := lane_nn (Z (k / 8))
              have hl1 := lane_lt (Z (k / 8))
              clear hr
              go_wp2
              go_roundw
              case rel =>
                rw [byteAt_mod]
                refine ⟨k + 1, by omega, rfl, hB.setCell (by have := HN.out; show _ ≤ o; omega) _, Holds.other hg _ _ (by show n ≠ o; omega), Holds.other hh _ _ (by show a ≠ o; omega), ?_⟩
                refine (Holds.byteSet HR.out k (byteAt Z k)).congr (bytesA_congr fun i _ => ?_)
                by_cases e : i = k
                · subst e; simp
                · by_cases c : i < k
                  · simp [e, c, show i < k + 1 by omega]
                  · simp [e, c, show ¬ i < k + 1 by omega]
              case measure => simp [intOf]; omega
            · have hk1 : ¬ (k : Int) < 32 := by omega
              have hkk : k = 32 := by omega
              subst hkk
              have hr2 : Holds wr o 44 (bytesA 32 (hashOf M)) := hr.congr (bytesA_congr fun i hi => by
                rw [if_pos hi, HZZ.out, HQ.out]
                exact byteAt_same (padS_end M) i hi)
              have hin : (Tryd.prog.info? 44).map (·.size) = some (bytesA 32 (hashOf M)).size := by rw [bytesA_size]; kernel_rfl
              have hzs : (bytesA 32 (fun _ => 0)).size = (bytesA 32 (hashOf M)).size := by rw [bytesA_size, bytesA_size]
              have hon := bytesA_one 32 (hashOf M)
              generalize hcz : bytesA 32 (hashOf M) = cz at hin hzs hon hr2
              have HCZ : Hid (bytesA 32 (hashOf M) = cz) := hcz
              clear hcz hr
              go_wp2_with (first
                | (refine wpList_loadH rfl 44 _ rfl o rfl 44 cz _ hr2 Tryd.underlying44 rfl hin ?_)
                | (refine wpList_storeH rfl 44 _ _ rfl n cz rfl rfl 44 _ hg hin hzs hon ?_
                   intro w6 h6 o6 z6))
              rw [← HCZ.out] at h6 hin
              rw [HM.out] at h6 hin
              exact bodyPost_ret (results_cellH rfl _ _ n 44 (bytesA 32 (hashOf x.data.toList)) _ rfl h6 Tryd.underlying44 rfl hin) rfl
                ⟨rfl, Only.fresh hB o6 (by have := HN.out; omega)⟩

end Go.Proofs.YtjbenoaefjlbaaaDoor
