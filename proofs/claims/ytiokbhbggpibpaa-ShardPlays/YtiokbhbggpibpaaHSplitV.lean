/-
  What Split does.
-/
import Derived.Test.YtiokbhbggpibpaaHSplitW
import Derived.Test.YtiokbhbggpibpaaHGA
namespace Go.Proofs.Ytiokbhbggpibpaa
open Go Go.RowKit

theorem inBlock_normalH {n : Nat} {Q : Exit → Act → World → Prop} {a : Act} {w : World} (h : Q .normal a w) : Exit.inBlock n Q .normal a w := h
theorem then_normalH {K : Act → World → Prop} {Q : Exit → Act → World → Prop} {a : Act} {w : World} (h : K a w) : Exit.then K Q .normal a w := h
theorem wrapH (d : Nat) (h : d ≤ 1000000) : IntKind.i64.wrap (d : Int) = d := by rw [IntKind.wrap_i64]; omega
theorem below_drewH (w : World) : Below w.heap.size w w.drew := ⟨rfl, rfl, rfl, Nat.le_refl _, fun _ _ => rfl⟩
set_option maxRecDepth 8000 in
set_option maxHeartbeats 4000000 in
theorem hsplit_any {w : World} {s : Value} {mo : Option Nat} {M : Nat → Bool} (h : View w s mo M) (hml : (memFrom M 0).length ≤ 1000000) :
    Calls Try.prog 12 #[s] w fun e w' => ∃ v L, e = .returned v ∧ SplitOf (memFrom M 0) L ∧ OwnChunks w' w.heap.size v L ∧ Below w.heap.size w w' := by
  have hms := members_any h
  have hnum := nums_of h.map.bound
  generalize memFrom M 0 = m at hms hml hnum ⊢
  have hbc := buildCk
  go_enter Try.func12, Try.ntmps12
  go_wp2_with fail
  refine hms.mono ?_
  rintro e w1 ⟨v1, rfl, hown, hB1⟩
  clear hms
  obtain ⟨p, c, hv1, hia⟩ := hown.intsAt
  have hcap : m.length ≤ c := by
    rcases hown.2 with ⟨e, h0⟩ | ⟨g, cap, cur, e, _, _, h3, _⟩
    · omega
    · rw [hv1] at e
      injection e with _ _ e3
      omega
  have hpb : ∀ k, (Value.slice p m.length c).ownBlock = some k → k < w1.heap.size := fun k hk => by
    rw [← hv1] at hk
    exact (hown.lt k hk).2
  subst hv1
  clear hown
  obtain ⟨cn, hcn⟩ : ∃ cn, cnt64 m.length = cn := ⟨_, rfl⟩
  have hcn' : cn = (m.length + 63) / 64 := hcn.symm
  have HCN : Hid (cnt64 m.length = cn) := hcn
  obtain ⟨n, hn⟩ : ∃ n, m.length = n := ⟨_, rfl⟩
  have HN : Hid (m.length = n) := hn
  rw [hn] at hcn' hcap hml hpb hia ⊢
  clear hn hcn
  have hquo : ((n : Int) + 64 - 1) / 64 = (cn : Int) := by omega
  have h64a : n ≤ 64 * cn := by omega
  have h64b : 64 * cn < n + 64 := by omega
  clear hcn'
  have hmk := make_chunks cn (by omega)
  have hcn1 : (cn : Int) ≤ 1000000 := by omega
  have hnb : (n : Int) ≤ 1000000 := by omega
  obtain ⟨g, hg⟩ : ∃ g, w1.heap.size = g := ⟨_, rfl⟩
  obtain ⟨W2, hW2⟩ : ∃ W2, w1.alloc (.cells (madeCells #[.int .i64 0, .string ⟨#[]⟩] (cn * 2)) 44) = W2 := ⟨_, rfl⟩
  have hB2 : Below w1.heap.size w1 W2 := by rw [← hW2]; exact below_new1 _ _
  have hH2 : Holds W2 g 44 (madeCells #[.int .i64 0, .string ⟨#[]⟩] (cn * 2)) := by rw [← hW2, ← hg]; exact Holds.new _ _ _
  have hBw2 := below_new hB1 hB2
  have hia2 := hia.below hB2
  have hne : (Value.slice p n c).ownBlock ≠ some g := fun q => by have := hpb _ q; omega
  have hgw : w.heap.size ≤ g := by have := hB1.size; omega
  have hsz0 := size_madeCells #[.int .i64 0, .string ⟨#[]⟩] (cn * 2)
  generalize madeCells #[.int .i64 0, .string ⟨#[]⟩] (cn * 2) = cur0 at hH2 hsz0 hW2 hmk
  have F0 : Hid (Holds W2 g 44 cur0 ∧ cur0.size = cn * 2 ∧ Below w.heap.size w W2 ∧ IntsAt W2 (.slice p n c) (m.map fun x : Nat => (x : Int))) := ⟨hH2, hsz0, hBw2, hia2⟩
  clear hH2 hsz0 hBw2 hia2 hia hB1 hB2 hpb
  go_wp2_with fail
  go_loopw [18] (fun y wr => ∃ (i : Nat) (cur : Array Value), y = .int .i64 (i : Nat) ∧ i ≤ cn ∧ Holds wr g 44 cur ∧ cur.size = cn * 2 ∧ Hid (cur.toList.take (i * 2) = ccells (rawsC m i)) ∧ Below w.heap.size w wr ∧ IntsAt wr (.slice p n c) (m.map fun x : Nat => (x : Int))) (fun y _ => cn - (intOf y).toNat)
  case atStart => exact ⟨0, cur0, rfl, Nat.zero_le _, F0.out.1, F0.out.2.1, (by show _ = _; rfl), F0.out.2.2.1, F0.out.2.2.2⟩
  case round =>
    clear F0
    obtain ⟨i, cur, rfl, hi, hH, hsz, HC, hB, hI⟩ := hrel
    by_cases hin : i < cn
    · have hii : (i : Int) < cn := by omega
      obtain ⟨lo, hlo⟩ : ∃ lo, i * 64 = lo := ⟨_, rfl⟩
      obtain ⟨hj, hhj⟩ : ∃ hj, min ((i + 1) * 64) n = hj := ⟨_, rfl⟩
      have hloi : (i : Int) * 64 = (lo : Int) := by omega
      have hmin : min (((i : Int) + 1) * 64) (n : Int) = (hj : Int) := by omega
      have h1 : lo < hj := by omega
      have h2 : hj ≤ n := by omega
      have h3 : hj - lo ≤ 64 := by omega
      have hpart : partAt m i = (m.drop lo).take (hj - lo) := by
        have hL := HN.out
        unfold partAt
        rw [show 64 * i = lo by omega]
        rcases (by omega : hj - lo = 64 ∨ n = hj) with e | e
        · rw [e]
        · rw [List.take_of_length_le (by rw [List.length_drop]; omega), List.take_of_length_le (by rw [List.length_drop]; omega)]
      have hplen : (partAt m i).length = hj - lo := by rw [hpart, List.length_take, List.length_drop, HN.out]; omega
      have hpn : Nums (partAt m i) := hnum.sub (by unfold partAt; exact (List.take_sublist _ _).trans (List.drop_sublist _ _))
      obtain ⟨p', hsl, hmid⟩ := ints_mid p (n := n) (c := c) lo hj h1 h2 hcap
      obtain ⟨hIp, hbk⟩ := hmid wr _ hI
      have hnb2 : ∀ k d, (Value.slice p' k d).ownBlock ≠ some g := fun k d => by rw [hbk k d n c]; exact hne
      rw [← List.map_drop, ← List.map_take, ← hpart] at hIp
      have hLx := last_getD (partAt m i) (by omega)
      rw [hplen] at hLx
      obtain ⟨pl, hpl⟩ : ∃ pl, hj - lo = pl := ⟨_, rfl⟩
      rw [hpl] at hsl hIp hLx hplen
      obtain ⟨d, hd⟩ : ∃ d, pl - 1 = d := ⟨_, rfl⟩
      rw [hd] at hLx
      have hdi : (pl : Int) - 1 = (d : Int) := by omega
      have hdp : d < pl := by omega
      have hdpi : (d : Int) < pl := by omega
      have hpli : (pl : Int) ≤ 64 := by omega
      have hwd := wrapH d (by omega)
      have hex : ((partAt m i).map fun x : Nat => (x : Int))[d]? = some (((partAt m i).getLastD 0 : Nat) : Int) := by
        rw [List.getD_eq_getElem?_getD, List.getElem?_eq_getElem (by rw [List.length_map, hplen]; exact hdp)] at hLx
        rw [List.getElem?_eq_getElem (by rw [List.length_map, hplen]; exact hdp)]
        exact congrArg some hLx
      obtain ⟨mb, mof, rfl, hcell⟩ := hIp.get hex
      have HCR : Hid (ccells (rawsC m (i + 1)) = ccells (rawsC m i) ++ [.int .i64 (((partAt m i).getLastD 0 : Nat) : Int), .string (dataOf (partAt m i))]) := ccells_raws m i
      have hod := ofInts_ofN hpn
      have hdat : dataOf (partAt m i) = ⟨(bytesM (ofN (partAt m i))).toArray⟩ := rfl
      generalize hP : partAt m i = P at hIp hcell HCR hpn hplen hod hdat
      have hPb : ∀ x ∈ (P.map fun x : Nat => (x : Int)), x ≤ 9223372036854775807 := fun x hx => by
        obtain ⟨y, hy, rfl⟩ := List.mem_map.1 hx
        have := hpn.bound y hy
        omega
      have hPl : (P.map fun x : Nat => (x : Int)).length ≤ 1000000 := by rw [List.length_map, hplen]; omega
      generalize ((P.getLastD 0 : Nat) : Int) = la at hcell HCR
      clear hP hpart hmid hLx hex hhj hlo
      rw [hquo]
      have hoff : i * 2 + 1 < cur.size := by omega
      go_wp2_with fail
      refine wp_region_plan (fun W => W.cell? ⟨mb, mof + d, none⟩ = some (.int .i64 la)) [.take 0, .take 1, .take 2, .take 3, .take 4, .take 5, .take 6, .take 7, .take 8, .one 9, .one 10, .take 11, .one 12, .one 13] mixedP (by kernel_rfl) rfl (by kernel_rfl) (fun _ _ _ d _ h => by cases d <;> exact h) hcell ?_
      refine plan_val (some 31) rfl rfl rfl (.slice (some ⟨g, 0, none⟩) cn cn) (fun _ => by go_simp) ?_
      go_frame
      refine plan_val (some 32) rfl rfl rfl (.int .i64 (i : Nat)) (fun _ => by go_simp) ?_
      go_frame
      refine plan_val (some 33) rfl rfl rfl (.slice (some ⟨mb, mof, none⟩) pl (c - lo)) (fun _ => by go_simp) ?_
      go_frame
      refine plan_val (some 34) rfl rfl rfl (.slice (some ⟨mb, mof, none⟩) pl (c - lo)) (fun _ => by go_simp) ?_
      go_frame
      refine plan_val (some 35) rfl rfl rfl (.int .i64 (pl : Nat)) (fun _ => by go_simp) ?_
      go_frame
      refine plan_val (some 36) rfl rfl rfl (.int .i64 (d : Nat)) (fun _ => by go_simp) ?_
      go_frame
      refine plan_val (some 37) rfl rfl rfl (.pointer (some ⟨mb, mof + d, none⟩)) (fun _ => by go_simp) ?_
      go_frame
      refine plan_ldI (some 38) rfl rfl rfl _ rfl rfl (v := .int .i64 la) (fun W hW => hW) ?_
      go_frame
      refine plan_val (some 39) rfl rfl rfl (.slice (some ⟨mb, mof, none⟩) pl (c - lo)) (fun _ => by go_simp) ?_
      go_frame
      have hnw := new_any (hIp.below (below_drewH wr)) hPb hPl
      refine plan_call (some 40) rfl rfl rfl (f := 13) (vs := #[.slice (some ⟨mb, mof, none⟩) pl (c - lo)]) (by go_simp) (hnw.mono ?_)
      rintro e w3 ⟨b3, rfl, mo3, hs3, hb3, hm3, hB3⟩
      clear hnw
      have hB3' := below_new (below_drewH wr) hB3
      have hc3 : w3.cell? ⟨mb, mof + d, none⟩ = some (.int .i64 la) := by
        rw [hB3'.cell (p := ⟨mb, mof + d, none⟩) (World.block_lt_of_cell? _ _ hcell)]; exact hcell
      refine ⟨_, rfl, hc3, ?_⟩
      go_frame
      have hby := bytes_any hs3.view
      rw [hod, ← hdat] at hby
      generalize dataOf P = dt at hby HCR
      refine plan_call (some 41) rfl rfl rfl (f := 31) (vs := #[.pointer (some ⟨b3, 0, none⟩)]) (by go_simp) (hby.mono ?_)
      rintro e w4 ⟨rfl, hB4⟩
      clear hby
      have hB4' := below_new hB3' hB4
      have hc4 : w4.cell? ⟨mb, mof + d, none⟩ = some (.int .i64 la) := by
        rw [hB4.cell (p := ⟨mb, mof + d, none⟩) (World.block_lt_of_cell? _ _ hc3)]; exact hc3
      refine ⟨_, rfl, hc4, ?_⟩
      go_frame
      refine plan_val (some 42) rfl rfl rfl (.agg #[.int .i64 la, .string dt]) (fun _ => by go_simp) ?_
      go_frame
      refine plan_one (some 43) rfl rfl rfl (v := .pointer (some ⟨g, i * 2, none⟩)) (w' := w4) (by go_simp) hc4 ?_
      go_frame
      have hH4 := below_holds hB4' hH
      refine plan_stK none rfl rfl rfl _ _ rfl (g := g) (o := i * 2) (u := la) (s := dt) rfl rfl hH4 hoff ?_
      intro w5 hH5 hO5
      have hI5 := ((hI.below (below_drewH wr)).below hB3).below hB4
      have hI6 := hI5.only hO5 hne
      have hB6 := Only.fresh (below_new hB hB4') hO5 hgw
      have hc5 : w5.cell? ⟨mb, mof + d, none⟩ = some (.int .i64 la) := by
        have hlt := World.block_lt_of_cell? _ _ hc4
        have hng : mb ≠ g := fun e => hnb2 0 0 (by rw [← e]; rfl)
        rw [World.cell?_of_block (a := ⟨mb, mof + d, none⟩) (hO5.block mb hlt hng)]
        exact hc4
      have HC5 : Hid (((cur.setIfInBounds (i * 2) (.int .i64 la)).setIfInBounds (i * 2 + 1) (.string dt)).toList.take ((i + 1) * 2) = ccells (rawsC m (i + 1))) := by
        show _ = _
        rw [HCR.out, show (i + 1) * 2 = i * 2 + 2 by omega]
        exact take_set2 cur _ _ HC.out hoff
      have HS5 : Hid (((cur.setIfInBounds (i * 2) (.int .i64 la)).setIfInBounds (i * 2 + 1) (.string dt)).size = cn * 2) := by show _ = _; rw [Array.size_setIfInBounds, Array.size_setIfInBounds]; exact hsz
      refine ⟨hc5, ?_⟩
      go_frame
      generalize (cur.setIfInBounds (i * 2) (.int .i64 la)).setIfInBounds (i * 2 + 1) (.string dt) = cur5 at hH5 HC5 HS5
      have F5 : Hid (Holds w5 g 44 cur5 ∧ Below w.heap.size w w5 ∧ IntsAt w5 (.slice p n c) (m.map fun x : Nat => (x : Int))) := ⟨hH5, hB6, hI6⟩
      clear hH5 hB6 hI6 hI5 hH4 hc5 hc4 hc3 hO5 hB4' hB4 hB3' hB3 hs3 hIp hcell hPb hI hH hB HC
      refine inBlock_normalH ?_
      refine then_normalH ?_
      go_at_K
      go_wp2_with fail
      go_roundw
      case rel => exact ⟨i + 1, cur5, by go_num, by omega, F5.out.1, HS5.out, HC5, F5.out.2.1, F5.out.2.2⟩
      case measure => simp [intOf]; omega
    · have hii : ¬ (i : Int) < cn := by omega
      obtain rfl : i = cn := by omega
      rw [hquo]
      by_cases hz : i = 0
      · have hzi : ¬ (i : Int) > 0 := by omega
        have HR : Hid (SplitOf m [] ∧ OwnChunks wr w.heap.size (.slice (some ⟨g, 0, none⟩) 0 0) []) := by
          have hm0 : m = [] := List.eq_nil_of_length_eq_zero (by have := HN.out; omega)
          refine ⟨⟨[], trivial, hm0.symm, rfl⟩, rfl, .inr ⟨g, 0, cur, rfl, hgw, hH, Nat.zero_le _, by unfold maxLen; omega, by rw [hsz, hz], by simp [ccells]⟩⟩
        clear hH hI HC
        go_wp2_with fail
        go_ret
        exact ⟨_, rfl, _, HR.out.1, HR.out.2, hB⟩
      · obtain ⟨j, hj⟩ : ∃ j, i - 1 = j := ⟨_, rfl⟩
        have hji : (i : Int) - 1 = (j : Int) := by omega
        have hjl : (j : Int) < i := by omega
        have hzi : (i : Int) > 0 := by omega
        have hcj : ∃ y, wr.cell? ⟨g, j * 2, none⟩ = some y := by rw [hH.cell, Array.getElem?_eq_getElem (by omega)]; exact ⟨_, rfl⟩
        obtain ⟨y0, hy0⟩ := hcj
        have hfj := hH.frozen (j * 2)
        have HR : Hid (SplitOf m (rawsC m j ++ [(2147483647, dataOf (partAt m j))]) ∧ OwnChunks (wr.setCell ⟨g, j * 2, none⟩ (.int .i64 2147483647)) w.heap.size (.slice (some ⟨g, 0, none⟩) i i) (rawsC m j ++ [(2147483647, dataOf (partAt m j))])) := by
          have hlu := last_upper m (by rw [HCN.out]; omega)
          rw [HCN.out, hj] at hlu
          refine ⟨hlu, ?_⟩
          have hlen : (rawsC m j ++ [((2147483647 : Int), dataOf (partAt m j))]).length = i := by rw [List.length_append, rawsC_len]; simp; omega
          have hcur := HC.out
          rw [show i = j + 1 by omega, ccells_raws] at hcur
          unfold OwnChunks
          rw [hlen]
          refine ⟨by rw [ccells_len, hlen], .inr ⟨g, i, _, rfl, hgw, hH.set (j * 2) (.int .i64 2147483647), Nat.le_refl _, by unfold maxLen; omega, by rw [Array.size_setIfInBounds]; exact hsz, ?_⟩⟩
          rw [ccells_app, show i * 2 = j * 2 + 2 by omega]
          exact take_set1 cur _ _ _ (by rw [show j * 2 + 2 = (j + 1) * 2 by omega]; exact hcur) (by rw [ccells_len, rawsC_len]) (by omega)
        have HB : Hid (Below w.heap.size w (wr.setCell ⟨g, j * 2, none⟩ (.int .i64 2147483647))) := Only.fresh hB ((Only.refl g wr).set _ _) hgw
        clear hH hI HC hj
        go_wp2_with fail
        go_ret
        exact ⟨_, rfl, _, HR.out.1, HR.out.2, HB.out⟩
end Go.Proofs.Ytiokbhbggpibpaa
