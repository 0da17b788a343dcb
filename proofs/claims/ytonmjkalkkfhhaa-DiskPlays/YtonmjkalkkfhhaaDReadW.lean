/-
  What Read, Sync and Clear do; New.
-/
import Derived.Test.YtonmjkalkkfhhaaDWriteW
import Derived.Test.YtonmjkalkkfhhaaShelf
namespace Go.Proofs.Ytonmjkalkkfhhaa
open Go Go.RowKit Go.Maps

/-- A page of one byte. -/
def fillOf (n : Nat) (b : UInt8) : ByteArray := ⟨(List.replicate n b).toArray⟩
theorem fillOf_size (n : Nat) (b : UInt8) : (fillOf n b).size = n := by
  show (List.replicate n b).toArray.size = n
  rw [List.size_toArray, List.length_replicate]
/-- A page of zeros. -/
def zeros : ByteArray := fillOf 1024 0
theorem repeat_zeros (n : Nat) : (⟨(Lib.repeatL [0] n).toArray⟩ : ByteArray) = fillOf n 0 := by
  have : ∀ n, Lib.repeatL [0] n = List.replicate n 0 := fun n => by
    induction n with
    | zero => rfl
    | succ n ih => simp [Lib.repeatL, List.replicate_succ, ih]
  unfold fillOf
  rw [this]
theorem zeros_size : zeros.size = 1024 := fillOf_size _ _

/-- A page is read. -/
def Dev.read (D : Dev) (n : Int) : ByteArray × Int × Dev :=
  if (D.begin (D.has n)).1 = 0 then (((D.pages n).map (·.1)).getD zeros, 0, (D.begin (D.has n)).2) else (⟨#[]⟩, D.begin (D.has n))

theorem lookPok {w : World} {h : Hd} {D : Dev} (a : DiskAt w h D) {u : Int} (h0 : 0 ≤ u) (h1 : u ≤ 9223372036854775807) :
    (Instr.lookup 54 (.map h.po) (.int .i64 u) true).run Try.prog w = .ok (.tuple #[.agg #[.string ((D.pages u).getD (⟨#[]⟩, ⟨#[]⟩)).1, .string ((D.pages u).getD (⟨#[]⟩, ⟨#[]⟩)).2], .bool (D.pages u).isSome]) w := by
  have := a.pages.look elemP Try.underlying54 (zeroP w) (wfI (u := u) (by omega) h1) true
  simpa [mkP] using this

set_option maxRecDepth 8000 in
set_option maxHeartbeats 2000000 in
theorem read_any {w : World} {h : Hd} {D : Dev} (a : DiskAt w h D) {N : Nat} (ok : D.ok N) (hN : N < 1000000000) (n : Int) (hn : -9223372036854775808 ≤ n ∧ n ≤ 9223372036854775807) :
    Calls Try.prog 12 #[.pointer (some ⟨h.b, 0, none⟩), .int .i64 n] w fun e w' => e = .returned (.tuple #[.string (D.read n).1, .int .i64 (D.read n).2.1]) ∧ Done w h w' h (D.read n).2.2 := by
  have hh := has_any a n
  have hbg := begin_any a ok hN (D.has n)
  have hp := begin_pages D (D.has n)
  have hz := @begin_zero D (D.has n)
  unfold Dev.read
  generalize hE : D.begin (D.has n) = E at hbg hp hz ⊢
  clear hE
  by_cases he : E.1 = 0
  · rw [if_pos he]
    rw [he] at hbg
    have hr1 := (hz he).1
    have hr3 := hr1
    unfold Dev.has at hr3
    simp only [Bool.and_eq_true, decide_eq_true_eq] at hr3
    have hsz := ok.size
    have hn0 : 0 ≤ n := hr3.1
    rw [hr1] at hh hbg
    have hpg := hp.1
    clear hz hr3 hp
    cases hq : D.pages n with
    | some x =>
      obtain ⟨x1, x2⟩ := x
      simp only [Option.map_some, Option.getD_some]
      have HQ : Hid (D.pages n = some (x1, x2)) := hq
      clear hq
      have HP : Hid (E.2.pages = D.pages) := hpg
      clear hpg
      go_enter Try.func12, Try.ntmps12
      go_wp2_with (first
        | (go_at_call 38; refine hh.mono ?_; rintro e w1 ⟨rfl, rfl⟩)
        | (go_at_call 37; refine hbg.mono ?_; rintro e w2 ⟨rfl, hd⟩; clear hbg; have a2 := hd.at_; have c1 : w2.cell? ⟨h.b, 1, none⟩ = some (.map h.po) := a2.ptr.cell 1; have hlk := lookPok a2 (u := n) hn0 (by omega); rw [HP.out, HQ.out] at hlk; simp only [Option.getD_some, Option.isSome_some] at hlk))
      go_ret2
      exact ⟨rfl, hd.below (below_new1 _ _)⟩
    | none =>
      simp only [Option.map_none, Option.getD_none]
      have HQ : Hid (D.pages n = none) := hq
      clear hq
      have HP : Hid (E.2.pages = D.pages) := hpg
      clear hpg
      have hrep := fun W => Try.strings_Repeat ⟨#[0]⟩ 1024 W (by omega) (by decide)
      rw [show (⟨#[0]⟩ : ByteArray).data.toList = [0] from rfl, repeat_zeros] at hrep
      unfold zeros
      generalize fillOf 1024 0 = zz at hrep ⊢
      go_enter Try.func12, Try.ntmps12
      go_wp2_with (first
        | (go_at_call 38; refine hh.mono ?_; rintro e w1 ⟨rfl, rfl⟩)
        | (go_at_call 37; refine hbg.mono ?_; rintro e w2 ⟨rfl, hd⟩; clear hbg; have a2 := hd.at_; have c1 : w2.cell? ⟨h.b, 1, none⟩ = some (.map h.po) := a2.ptr.cell 1; have hlk := lookPok a2 (u := n) hn0 (by omega); rw [HP.out, HQ.out] at hlk; simp only [Option.getD_none, Option.isSome_none] at hlk)
        | (go_at_call 39; refine (hrep _).mono ?_; rintro e w3 ⟨rfl, hB3⟩; have hd3 := (hd.below (below_new1 _ (.cells #[.string ⟨#[]⟩, .string ⟨#[]⟩] 66))).below hB3))
      go_ret2
      exact ⟨rfl, hd3⟩
  · rw [if_neg he]
    have hne : (E.1 == 0) = false := beq_eq_false_iff_ne.2 he
    go_enter Try.func12, Try.ntmps12
    go_wp2_with (first
      | (go_at_call 38; refine hh.mono ?_; rintro e w1 ⟨rfl, rfl⟩)
      | (go_at_call 37; refine hbg.mono ?_; rintro e w2 ⟨rfl, hd⟩; clear hbg))
    go_ret2
    exact ⟨rfl, hd⟩

/-- All writes so far last. -/
def Dev.syncTo (D : Dev) : List (Int × ByteArray) → (Int → Option Pg) → (Int → Option Pg)
  | [], M => M
  | p :: L, M => D.syncTo L (setM M p.1 (some (p.2, p.2)))
def Dev.sync (D : Dev) : Int × Dev :=
  if (D.begin true).1 = 0 then (0, { (D.begin true).2 with pages := D.syncTo D.writes D.pages, writes := [] }) else D.begin true
theorem syncTo_app (D : Dev) (L : List (Int × ByteArray)) (p : Int × ByteArray) (M : Int → Option Pg) : D.syncTo (L ++ [p]) M = setM (D.syncTo L M) p.1 (some (p.2, p.2)) := by
  induction L generalizing M with
  | nil => rfl
  | cons q L ih => simp only [List.cons_append, Dev.syncTo, ih]
theorem syncTo_keys (D : Dev) : ∀ (L : List (Int × ByteArray)) (M : Int → Option Pg), (∀ p ∈ L, 0 ≤ p.1 ∧ p.1 < 65536) → (∀ u x, M u = some x → 0 ≤ u ∧ u < 65536) → ∀ u x, D.syncTo L M u = some x → 0 ≤ u ∧ u < 65536
  | [], _, _, h => h
  | p :: L, M, hL, h => syncTo_keys D L _ (fun q hq => hL q (by simp [hq])) (fun u x hu => by
    unfold setM at hu
    split at hu
    · rename_i e; rw [e]; exact hL p (by simp)
    · exact h u x hu)
theorem syncTo_texts (D : Dev) : ∀ (L : List (Int × ByteArray)) (M : Int → Option Pg), (∀ p ∈ L, p.2.size = 1024) → (∀ u x, M u = some x → x.1.size = 1024 ∧ (x.2.size = 0 ∨ x.2.size = 1024)) → ∀ u x, D.syncTo L M u = some x → x.1.size = 1024 ∧ (x.2.size = 0 ∨ x.2.size = 1024)
  | [], _, _, h => h
  | p :: L, M, hL, h => syncTo_texts D L _ (fun q hq => hL q (by simp [hq])) (fun u x hu => by
    unfold setM at hu
    split at hu
    · injection hu with hu
      rw [← hu]
      exact ⟨hL p (by simp), .inr (hL p (by simp))⟩
    · exact h u x hu)
theorem sync_ok {D : Dev} {N : Nat} (ok : D.ok N) : D.sync.2.ok (N + 1) := by
  have hb := begin_ok ok true
  unfold Dev.sync
  split
  · exact ⟨hb.size, syncTo_keys D _ _ (fun p hp => ⟨(ok.writes p hp).1, (ok.writes p hp).2.1⟩) ok.keys, syncTo_texts D _ _ (fun p hp => (ok.writes p hp).2.2) ok.texts, fun p hp => by simp at hp, by simp, hb.ops, hb.left, hb.count⟩
  · exact hb
theorem read_ok {D : Dev} {N : Nat} (ok : D.ok N) (n : Int) : (D.read n).2.2.ok (N + 1) := by
  have hb := begin_ok ok (D.has n)
  unfold Dev.read
  split <;> exact hb

theorem WRow.len {w : World} {v : Value} {L : List (Int × ByteArray)} (h : WRow w v L) : ∃ p c, v = .slice p L.length c := by
  rcases h with ⟨rfl, rfl⟩ | ⟨g, cap, cur, rfl, _⟩
  · exact ⟨_, _, rfl⟩
  · exact ⟨_, _, rfl⟩

set_option maxRecDepth 8000 in
set_option maxHeartbeats 2000000 in
theorem sync_any {w : World} {h : Hd} {D : Dev} (a : DiskAt w h D) {N : Nat} (ok : D.ok N) (hN : N < 1000000000) :
    Calls Try.prog 14 #[.pointer (some ⟨h.b, 0, none⟩)] w fun e w' => e = .returned (.int .i64 D.sync.1) ∧ ∃ h', Done w h w' h' D.sync.2 := by
  have hbg := begin_any a ok hN true
  have hp := begin_pages D true
  unfold Dev.sync
  generalize hE : D.begin true = E at hbg hp ⊢
  clear hE
  by_cases he : E.1 = 0
  · rw [if_pos he]
    rw [he] at hbg
    have hb1 := buildP
    obtain ⟨b, po, wv, fo⟩ := h
    obtain ⟨p0, c0, hv⟩ := a.writes.len
    dsimp only at hv
    subst hv
    have HP : Hid (E.2.pages = D.pages ∧ E.2.writes = D.writes ∧ E.2.fails = D.fails ∧ E.2.size = D.size) := hp
    clear hp
    have hwr := ok.writes
    have hky := ok.keys
    have hmany := ok.many
    have hLi : (D.writes.length : Int) ≤ 1000000000 := by omega
    go_enter Try.func14, Try.ntmps14
    go_wp2_with (first
      | (go_at_call 37; refine hbg.mono ?_; rintro e w2 ⟨rfl, hd⟩; clear hbg; have a2 := hd.at_; have c2 : w2.cell? ⟨b, 2, none⟩ = some (.slice p0 D.writes.length c0) := a2.ptr.cell 2))
    go_loopw [16] (fun y wr => ∃ k : Nat, y = .int .i64 (k : Nat) ∧ k ≤ D.writes.length ∧ ∃ h', h'.wv = .slice p0 D.writes.length c0 ∧ Done w ⟨b, po, .slice p0 D.writes.length c0, fo⟩ wr h' { E.2 with pages := D.syncTo (D.writes.take k) D.pages }) (fun y _ => D.writes.length - (intOf y).toNat)
    case atStart => exact ⟨0, rfl, Nat.zero_le _, _, rfl, by have := hd; have e : E.2 = { E.2 with pages := D.syncTo (D.writes.take 0) D.pages } := (by show E.2 = { E.2 with pages := D.pages }; rw [← HP.out.1]); rw [← e]; exact hd⟩
    case round =>
      obtain ⟨k, rfl, hkL, ⟨b', po', wv', fo'⟩, hv', hdk⟩ := hrel
      dsimp only at hv'
      subst hv'
      have hb' : b' = b := hdk.newer.1
      subst hb'
      by_cases hk : k < D.writes.length
      · have hki : (k : Int) < D.writes.length := by omega
        obtain ⟨p, hpk⟩ : ∃ p, D.writes[k]? = some p := ⟨_, List.getElem?_eq_getElem hk⟩
        have hpm := hwr p (List.mem_of_getElem? hpk)
        have ak := hdk.at_
        have hrow := ak.writes
        dsimp only at hrow
        rw [HP.out.2.1] at hrow
        obtain ⟨g, cap, e0, hlc, hcm, hgl, q0, q1⟩ := hrow.at hpk
        injection e0 with e1 e2 e3
        subst e1 e3
        have hpt := put_any (ak.below (below_new1 wr (.cells #[.int .i64 p.1, .string p.2] 73))) (syncTo_keys D _ _ (fun q hq => ⟨(hwr q (List.mem_of_mem_take hq)).1, (hwr q (List.mem_of_mem_take hq)).2.1⟩) hky) hpm.1 hpm.2.1 (p.2, p.2)
        unfold mkP at hpt
        dsimp only at hpt
        have hs : setM (D.syncTo (D.writes.take k) D.pages) p.1 (some (p.2, p.2)) = D.syncTo (D.writes.take (k + 1)) D.pages := by
          rw [List.take_add_one, hpk, Option.toList_some, syncTo_app]
        rw [hs] at hpt
        clear hs
        clear hrow ak hd a2 a e2
        go_wp2_with (first
          | (go_at_call 42; refine hpt.mono ?_; rintro e w3 ⟨rfl, h3, hv3, _, hd3⟩; clear hpt))
        go_roundw
        case rel => exact ⟨k + 1, by go_num, by omega, h3, hv3, (hdk.below (below_new1 _ _)).trans hd3⟩
        case measure => simp [intOf]; omega
      · have hkl : k = D.writes.length := by omega
        have ak := hdk.at_
        have c2 : wr.cell? ⟨b', 2, none⟩ = some (.slice p0 D.writes.length c0) := ak.ptr.cell 2
        have f2 := frozenD ak 2
        have hni : ¬ (k : Int) < D.writes.length := by omega
        have hdw := Done.wrote ak (Keep.refl _ _) (v := .slice none 0 0) (L := []) (.inl ⟨rfl, rfl⟩) (fun k hk => by obtain ⟨n, c, e, _⟩ := hk; cases e)
        have HX : Hid (Done w ⟨b', po, .slice p0 D.writes.length c0, fo⟩ (wr.setCell ⟨b', 2, none⟩ (.slice none 0 0)) ⟨b', po', .slice none 0 0, fo'⟩ { E.2 with pages := D.syncTo D.writes D.pages, writes := [] }) := by
          have := hdk.trans hdw
          rw [hkl, List.take_length] at this
          exact this
        clear hdw hdk ak hd a2 a
        go_wp2_with fail
        go_ret
        exact ⟨rfl, _, HX.out⟩
  · rw [if_neg he]
    have hne : (E.1 == 0) = false := beq_eq_false_iff_ne.2 he
    go_enter Try.func14, Try.ntmps14
    go_wp2_with (first
      | (go_at_call 37; refine hbg.mono ?_; rintro e w2 ⟨rfl, hd⟩; clear hbg))
    go_ret
    exact ⟨rfl, h, hd⟩
end Go.Proofs.Ytonmjkalkkfhhaa
