/-
  Sync once more, with what becomes of the row of writes; a row that another device shares.
-/
import Derived.Test.YtonmjkalkkfhhaaDSide
import Derived.Test.YtonmjkalkkfhhaaDCopiesW
namespace Go.Proofs.Ytonmjkalkkfhhaa
open Go Go.RowKit Go.Maps

set_option maxRecDepth 8000 in
set_option maxHeartbeats 2000000 in
theorem sync_row {w : World} {h : Hd} {D : Dev} (a : DiskAt w h D) {N : Nat} (ok : D.ok N) (hN : N < 1000000000) :
    Calls Try.prog 14 #[.pointer (some ⟨h.b, 0, none⟩)] w fun e w' => e = .returned (.int .i64 D.sync.1) ∧ WRow w' h.wv D.writes ∧ ∃ h', Done w h w' h' D.sync.2 := by
  have hbg := begin_any a ok hN true
  have hp := begin_pages D true
  unfold Dev.sync
  generalize hE : D.begin true = E at hbg hp ⊢
  clear hE
  by_cases he : E.1 = 0
  · rw [if_pos he]
    rw [he] at hbg
    have hb1 := buildP
    obtain ⟨b, po, wv, fo⟩ := h
    obtain ⟨p0, c0, hv⟩ := a.writes.len
    dsimp only at hv
    subst hv
    have HP : Hid (E.2.pages = D.pages ∧ E.2.writes = D.writes ∧ E.2.fails = D.fails ∧ E.2.size = D.size) := hp
    clear hp
    have hwr := ok.writes
    have hky := ok.keys
    have hmany := ok.many
    have hLi : (D.writes.length : Int) ≤ 1000000000 := by omega
    go_enter Try.func14, Try.ntmps14
    go_wp2_with (first
      | (go_at_call 37; refine hbg.mono ?_; rintro e w2 ⟨rfl, hd⟩; clear hbg; have a2 := hd.at_; have c2 : w2.cell? ⟨b, 2, none⟩ = some (.slice p0 D.writes.length c0) := a2.ptr.cell 2))
    go_loopw [16] (fun y wr => ∃ k : Nat, y = .int .i64 (k : Nat) ∧ k ≤ D.writes.length ∧ ∃ h', h'.wv = .slice p0 D.writes.length c0 ∧ Done w ⟨b, po, .slice p0 D.writes.length c0, fo⟩ wr h' { E.2 with pages := D.syncTo (D.writes.take k) D.pages }) (fun y _ => D.writes.length - (intOf y).toNat)
    case atStart => exact ⟨0, rfl, Nat.zero_le _, _, rfl, by have := hd; have e : E.2 = { E.2 with pages := D.syncTo (D.writes.take 0) D.pages } := (by show E.2 = { E.2 with pages := D.pages }; rw [← HP.out.1]); rw [← e]; exact hd⟩
    case round =>
      obtain ⟨k, rfl, hkL, ⟨b', po', wv', fo'⟩, hv', hdk⟩ := hrel
      dsimp only at hv'
      subst hv'
      have hb' : b' = b := hdk.newer.1
      subst hb'
      by_cases hk : k < D.writes.length
      · have hki : (k : Int) < D.writes.length := by omega
        obtain ⟨p, hpk⟩ : ∃ p, D.writes[k]? = some p := ⟨_, List.getElem?_eq_getElem hk⟩
        have hpm := hwr p (List.mem_of_getElem? hpk)
        have ak := hdk.at_
        have hrow := ak.writes
        dsimp only at hrow
        rw [HP.out.2.1] at hrow
        obtain ⟨g, cap, e0, hlc, hcm, hgl, q0, q1⟩ := hrow.at hpk
        injection e0 with e1 e2 e3
        subst e1 e3
        have hpt := put_any (ak.below (below_new1 wr (.cells #[.int .i64 p.1, .string p.2] 73))) (syncTo_keys D _ _ (fun q hq => ⟨(hwr q (List.mem_of_mem_take hq)).1, (hwr q (List.mem_of_mem_take hq)).2.1⟩) hky) hpm.1 hpm.2.1 (p.2, p.2)
        unfold mkP at hpt
        dsimp only at hpt
        have hs : setM (D.syncTo (D.writes.take k) D.pages) p.1 (some (p.2, p.2)) = D.syncTo (D.writes.take (k + 1)) D.pages := by
          rw [List.take_add_one, hpk, Option.toList_some, syncTo_app]
        rw [hs] at hpt
        clear hs
        clear hrow ak hd a2 a e2
        go_wp2_with (first
          | (go_at_call 42; refine hpt.mono ?_; rintro e w3 ⟨rfl, h3, hv3, _, hd3⟩; clear hpt))
        go_roundw
        case rel => exact ⟨k + 1, by go_num, by omega, h3, hv3, (hdk.below (below_new1 _ _)).trans hd3⟩
        case measure => simp [intOf]; omega
      · have hkl : k = D.writes.length := by omega
        have ak := hdk.at_
        have c2 : wr.cell? ⟨b', 2, none⟩ = some (.slice p0 D.writes.length c0) := ak.ptr.cell 2
        have f2 := frozenD ak 2
        have hni : ¬ (k : Int) < D.writes.length := by omega
        have hdw := Done.wrote ak (Keep.refl _ _) (v := .slice none 0 0) (L := []) (.inl ⟨rfl, rfl⟩) (fun k hk => by obtain ⟨n, c, e, _⟩ := hk; cases e)
        have HX : Hid (Done w ⟨b', po, .slice p0 D.writes.length c0, fo⟩ (wr.setCell ⟨b', 2, none⟩ (.slice none 0 0)) ⟨b', po', .slice none 0 0, fo'⟩ { E.2 with pages := D.syncTo D.writes D.pages, writes := [] }) := by
          have := hdk.trans hdw
          rw [hkl, List.take_length] at this
          exact this
        have hrow := ak.writes
        dsimp only at hrow
        rw [HP.out.2.1] at hrow
        have HR : Hid (WRow (wr.setCell ⟨b', 2, none⟩ (.slice none 0 0)) (.slice p0 D.writes.length c0) D.writes) := by
          refine hrow.block fun k hk => ?_
          have : k ≠ b' := by
            rintro rfl
            obtain ⟨cur, hq⟩ := hrow.obj _ hk
            have hpp := ak.ptr
            unfold Holds at hpp
            rw [hpp] at hq
            injection hq with hq
            injection hq with _ hq
            exact absurd hq (by decide)
          exact Below.heap_setCell _ _ _ _ this
        clear hdw hdk ak hd a2 a hrow
        go_wp2_with fail
        go_ret
        exact ⟨rfl, HR.out, _, HX.out⟩
  · rw [if_neg he]
    have hne : (E.1 == 0) = false := beq_eq_false_iff_ne.2 he
    go_enter Try.func14, Try.ntmps14
    go_wp2_with (first
      | (go_at_call 37; refine hbg.mono ?_; rintro e w2 ⟨rfl, hd⟩; clear hbg))
    go_ret
    have hrow := hd.at_.writes
    rw [hp.2.1] at hrow
    exact ⟨rfl, hrow, h, hd⟩
/-- A row that a device's own row begins with stays as it is where the device's does. -/
theorem row_prefix {w1 w2 : World} {v : Value} {L : List (Int × ByteArray)} {h : Hd} {D : Dev} (r : WRow w1 v L) (a : DiskAt w1 h D) (hL : ∃ E, D.writes = L ++ E) (k : Keep (Foot h) w1 w2) (r2 : WRow w2 h.wv D.writes) : WRow w2 v L := by
  rcases r with r | ⟨g, cap, cur, rfl, hg, hlc, hcm, hcs, htk⟩
  · exact .inl r
  · have hlt := (Array.getElem?_eq_some_iff.1 hg).1
    by_cases hin : Foot h g
    · rcases hin with e | e | ⟨n, c, e, hnc⟩
      · have := a.ptr
        unfold Holds at this
        rw [← e, hg] at this
        injection this with this
        injection this with _ this
        exact absurd this (by decide)
      · have hp := a.pages
        rw [e] at hp
        exact absurd hg (MapAt.noCells hp _ _ _)
      · have ra := a.writes
        rw [e] at ra r2
        rcases r2 with ⟨q, _⟩ | ⟨g2, cap2, cur2, q, hg2, hlc2, hcm2, hcs2, htk2⟩
        · cases q
        rcases ra with ⟨q', _⟩ | ⟨g3, cap3, cur3, q', hg3, hlc3, hcm3, hcs3, htk3⟩
        · cases q'
        injection q with q1 q2 q3
        injection q1 with q1
        injection q1 with q1 _ _
        injection q' with p1 p2 p3
        injection p1 with p1
        injection p1 with p1 _ _
        subst q1 p1 q3 p3
        rw [hg] at hg3
        injection hg3 with hg3
        injection hg3 with hg3 _ _
        subst hg3
        obtain ⟨E, hE⟩ := hL
        have hlen : L.length ≤ D.writes.length := by rw [hE, List.length_append]; omega
        have hcsz : cur2.size = c * 2 := by rcases hcs2 with q | q <;> omega
        have hcsz' : cur.size = c * 2 := by rcases hcs3 with q | q <;> omega
        refine .inr ⟨g, cap, cur2, rfl, hg2, hlc, hcm, ?_, ?_⟩
        · rcases hcs with q | q
          · left; omega
          · exact .inr q
        · have e1 : (cur2.toList.take (D.writes.length * 2)).take (L.length * 2) = (wcells D.writes).take (L.length * 2) := by rw [htk2]
          rw [List.take_take, Nat.min_eq_left (by omega)] at e1
          rw [e1, hE]
          have : wcells (L ++ E) = wcells L ++ wcells E := by unfold wcells; rw [List.flatMap_append]
          rw [this, List.take_append_of_le_length (by rw [wcells_len]; omega), List.take_of_length_le (by rw [wcells_len]; omega)]
    · exact .inr ⟨g, cap, cur, rfl, (k.block g hlt hin).trans hg, hlc, hcm, hcs, htk⟩
end Go.Proofs.Ytonmjkalkkfhhaa
