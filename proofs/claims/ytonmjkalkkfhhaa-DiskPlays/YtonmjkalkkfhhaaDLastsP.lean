/-
  What DiskLasts leans on: sector by sector, what a page may be behind a crash.
-/
import Derived.Test.YtonmjkalkkfhhaaDCopiesW
namespace Go.Proofs.Ytonmjkalkkfhhaa
open Go Go.RowKit Go.Maps

/-- Four sectors, each of one byte, one of these. -/
def Sect (f : Nat → UInt8) (M : List UInt8) : Prop := ∀ k, k < 4 → ∃ b, b ∈ M ∧ ∀ j, j < 256 → f (256 * k + j) = b
theorem Sect.mono {f : Nat → UInt8} {M M' : List UInt8} (h : Sect f M) (hM : ∀ b, b ∈ M → b ∈ M') : Sect f M' := fun k hk => by
  obtain ⟨b, h1, h2⟩ := h k hk
  exact ⟨b, hM b h1, h2⟩
theorem oldAt_fill (n : Nat) (c : UInt8) {j : Nat} (hj : j < n) : oldAt (fillOf n c) j = c := by
  unfold oldAt fillOf
  rw [List.getD_eq_getElem?_getD, List.getElem?_replicate_of_lt hj]
  rfl
theorem oldAt_empty (j : Nat) : oldAt ⟨#[]⟩ j = 0 := rfl
theorem sect_fill {c : UInt8} {M : List UInt8} (h : c ∈ M) : Sect (oldAt (fillOf 1024 c)) M := fun k hk => ⟨c, h, fun j hj => oldAt_fill _ _ (by omega)⟩
theorem sect_zero {M : List UInt8} (h : Sect (oldAt ⟨#[]⟩) M) : Sect (oldAt zeros) M := by
  obtain ⟨b, h1, h2⟩ := h 0 (by omega)
  have : (0 : UInt8) = b := h2 0 (by omega)
  exact sect_fill (by rw [this]; exact h1)
theorem oldAt_torn {old data : ByteArray} {picks : List Int} (h : anyAt picks (min 4 picks.length) = true) {j : Nat} (hj : j < 1024) : oldAt (tornT old data picks) j = tornAt old data picks (min 4 picks.length) j := by
  unfold oldAt tornT
  rw [if_pos h, List.getD_eq_getElem?_getD]
  show ((List.map _ (List.range 1024)).toArray.toList[j]?).getD 0 = _
  rw [List.getElem?_map, List.getElem?_range hj]
  rfl
theorem sect_torn {old : ByteArray} {c : UInt8} {M : List UInt8} (h : Sect (oldAt old) M) (hc : c ∈ M) (picks : List Int) : Sect (oldAt (tornT old (fillOf 1024 c) picks)) M := by
  by_cases ha : anyAt picks (min 4 picks.length) = true
  · intro k hk
    by_cases q : k < min 4 picks.length ∧ odd (picks.getD k 0) = true
    · refine ⟨c, hc, fun j hj => ?_⟩
      rw [oldAt_torn ha (by omega)]
      unfold tornAt
      rw [show (256 * k + j) / 256 = k by omega, if_pos q]
      exact oldAt_fill 1024 c (by omega)
    · obtain ⟨b, h1, h2⟩ := h k hk
      refine ⟨b, h1, fun j hj => ?_⟩
      rw [oldAt_torn ha (by omega)]
      unfold tornAt
      rw [show (256 * k + j) / 256 = k by omega, if_neg q]
      exact h2 j hj
  · unfold tornT
    rw [if_neg ha]
    exact h
/-- The lasting text of a page, none: the empty one. -/
def lastM (M : Int → Option Pg) (n : Int) : ByteArray := ((M n).getD (⟨#[]⟩, ⟨#[]⟩)).2
/-- The text that Read has. -/
def nowM (M : Int → Option Pg) (n : Int) : ByteArray := ((M n).map (·.1)).getD zeros
/-- Pages and writes ahead of a crash. -/
structure Mays (m : Nat → List UInt8) (L : List (Int × ByteArray)) (M : Int → Option Pg) : Prop where
  sect : ∀ n : Nat, n < 8 → Sect (oldAt (lastM M n)) (m n)
  same : ∀ n : Nat, n < 8 → ∀ x, M n = some x → (x.1 = x.2 ∧ x.2.size ≠ 0) ∨ ∃ p ∈ L, p.1 = (n : Int)
  wr : ∀ p ∈ L, ∃ n : Nat, n < 8 ∧ p.1 = (n : Int) ∧ ∃ c ∈ m n, p.2 = fillOf 1024 c
theorem size_zero {s : ByteArray} (h : s.size = 0) : s = ⟨#[]⟩ := by
  obtain ⟨⟨l⟩⟩ := s
  have : l.length = 0 := h
  rw [List.length_eq_zero_iff.1 this]
theorem Mays.keep {m : Nat → List UInt8} {p : Int × ByteArray} {L : List (Int × ByteArray)} {M : Int → Option Pg} (h : Mays m (p :: L) M) (picks : List Int) : Mays m L (keepM M p picks) := by
  obtain ⟨u, hu, e, c, hc, ed⟩ := h.wr p (by simp)
  have hs := sect_torn (h.sect u hu) hc picks
  have hk : ∀ n : Nat, n ≠ u → keepM M p picks (n : Int) = M n := fun n hn => by
    unfold keepM
    split <;> exact setM_other _ _ (by rw [e]; omega)
  have hT : tornT (lastM M (u : Int)) (fillOf 1024 c) picks = tornT ((M p.1).getD (⟨#[]⟩, ⟨#[]⟩)).2 p.2 picks := by rw [e, ed]; rfl
  have hw : ∀ q ∈ L, ∃ n : Nat, n < 8 ∧ q.1 = (n : Int) ∧ ∃ c ∈ m n, q.2 = fillOf 1024 c := fun q hq => h.wr q (by simp [hq])
  rw [hT] at hs
  by_cases hz : (tornT ((M p.1).getD (⟨#[]⟩, ⟨#[]⟩)).2 p.2 picks).size = 0
  · have hku : keepM M p picks (u : Int) = none := by
      unfold keepM
      rw [if_pos hz, e, setM_same]
    rw [size_zero hz] at hs
    refine ⟨fun n hn => ?_, fun n hn x hx => ?_, hw⟩
    · by_cases q : n = u
      · subst q
        unfold lastM
        rw [hku]
        exact hs
      · have := h.sect n hn
        unfold lastM at this ⊢
        rw [hk n q]
        exact this
    · by_cases q : n = u
      · subst q
        rw [hku] at hx
        cases hx
      · rw [hk n q] at hx
        rcases h.same n hn x hx with r | ⟨p', hp, r⟩
        · exact .inl r
        · rcases List.mem_cons.1 hp with rfl | hp
          · exact absurd (e.symm.trans r) (by omega)
          · exact .inr ⟨p', hp, r⟩
  · have hku : keepM M p picks (u : Int) = some (tornT ((M p.1).getD (⟨#[]⟩, ⟨#[]⟩)).2 p.2 picks, tornT ((M p.1).getD (⟨#[]⟩, ⟨#[]⟩)).2 p.2 picks) := by
      unfold keepM
      rw [if_neg hz, ← e, setM_same]
    refine ⟨fun n hn => ?_, fun n hn x hx => ?_, hw⟩
    · by_cases q : n = u
      · subst q
        unfold lastM
        rw [hku]
        exact hs
      · have := h.sect n hn
        unfold lastM at this ⊢
        rw [hk n q]
        exact this
    · by_cases q : n = u
      · subst q
        rw [hku] at hx
        injection hx with hx
        rw [← hx]
        exact .inl ⟨rfl, hz⟩
      · rw [hk n q] at hx
        rcases h.same n hn x hx with r | ⟨p', hp, r⟩
        · exact .inl r
        · rcases List.mem_cons.1 hp with rfl | hp
          · exact absurd (e.symm.trans r) (by omega)
          · exact .inr ⟨p', hp, r⟩
theorem Mays.crash {m : Nat → List UInt8} : ∀ {L : List (Int × ByteArray)} {M : Int → Option Pg} (picks : List Int), Mays m L M → Mays m [] (crashTo L picks M)
  | [], _, _, h => h
  | _ :: L, _, picks, h => Mays.crash (L := L) (picks.drop 4) (h.keep picks)
/-- What Read has behind a crash. -/
theorem Mays.now {m : Nat → List UInt8} {M : Int → Option Pg} (h : Mays m [] M) {n : Nat} (hn : n < 8) : Sect (oldAt (nowM M n)) (m n) := by
  have hs := h.sect n hn
  unfold lastM at hs
  unfold nowM
  cases e : M n with
  | none =>
    rw [e] at hs
    exact sect_zero hs
  | some x =>
    rw [e] at hs
    rcases h.same n hn x e with r | ⟨p, hp, _⟩
    · show Sect (oldAt x.1) _
      rw [r.1]
      exact hs
    · cases hp
/-- One place of a table anew. -/
def upd (m : Nat → List UInt8) (k : Nat) (l : List UInt8) : Nat → List UInt8 := fun n => if n = k then l else m n
theorem upd_same (m : Nat → List UInt8) (k : Nat) (l : List UInt8) : upd m k l k = l := if_pos rfl
theorem upd_other (m : Nat → List UInt8) {k n : Nat} (l : List UInt8) (h : n ≠ k) : upd m k l n = m n := if_neg h
/-- A device behind the sync. -/
structure Bhd (N : Nat) (m : Nat → List UInt8) (D : Dev) : Prop where
  calm : Calm N D
  may : Mays m D.writes D.pages
theorem Bhd.step {N : Nat} {m : Nat → List UInt8} {D : Dev} (h : Bhd N m D) {k : Nat} (hk : k < 8) (c : UInt8) :
    (D.write (k : Int) (fillOf 1024 c)).1 = 0 ∧ Bhd (N + 1) (upd m k (m k ++ [c])) (D.write (k : Int) (fillOf 1024 c)).2 := by
  have hok := write_ok h.calm.ok (k : Int) (fillOf 1024 c)
  have hw := write_free (D := D) h.calm.off h.calm.armed (by rw [h.calm.fails]) (n := (k : Int)) (s := fillOf 1024 c) (by omega) (by rw [h.calm.size]; omega) (fillOf_size _ _)
  refine ⟨by rw [hw], ?_⟩
  rw [hw] at hok ⊢
  have hm : ∀ n b, b ∈ m n → b ∈ upd m k (m k ++ [c]) n := fun n b hb => by
    by_cases q : n = k
    · subst q; rw [upd_same]; exact List.mem_append_left _ hb
    · rw [upd_other _ _ q]; exact hb
  refine ⟨⟨hok, h.calm.size, h.calm.off, h.calm.armed, h.calm.fails⟩, fun n hn => ?_, fun n hn x hx => ?_, fun p hp => ?_⟩
  · have := (h.may.sect n hn).mono (hm n)
    unfold lastM at this ⊢
    dsimp only
    by_cases q : n = k
    · subst q; rw [setM_same]; exact this
    · rw [setM_other _ _ (by omega)]; exact this
  · dsimp only at hx ⊢
    by_cases q : n = k
    · subst q; exact .inr ⟨_, List.mem_append_right _ (List.mem_singleton.2 rfl), rfl⟩
    · rw [setM_other _ _ (by omega)] at hx
      rcases h.may.same n hn x hx with r | ⟨p, hp, r⟩
      · exact .inl r
      · exact .inr ⟨p, List.mem_append_left _ hp, r⟩
  · dsimp only at hp
    rcases List.mem_append.1 hp with q | q
    · obtain ⟨n, hn, e, b, hb, eb⟩ := h.may.wr p q
      exact ⟨n, hn, e, b, hm n b hb, eb⟩
    · rw [List.mem_singleton.1 q]
      exact ⟨k, hk, rfl, c, by rw [upd_same]; exact List.mem_append_right _ (List.mem_singleton.2 rfl), rfl⟩
/-- A device ahead of the sync. -/
structure Ahd (N : Nat) (m : Nat → List UInt8) (D : Dev) : Prop where
  calm : Calm N D
  one : ∀ n : Nat, n < 8 → (D.syncTo D.writes D.pages (n : Int) = none ∧ m n = [0]) ∨ ∃ c, D.syncTo D.writes D.pages (n : Int) = some (fillOf 1024 c, fillOf 1024 c) ∧ m n = [c]
theorem syncTo_other (D E : Dev) : ∀ (L : List (Int × ByteArray)) (M M' : Int → Option Pg) (v : Int), M v = M' v → D.syncTo L M v = E.syncTo L M' v
  | [], _, _, _, h => h
  | p :: L, M, M', v, h => syncTo_other D E L _ _ v (by
    by_cases q : v = p.1
    · rw [q, setM_same, setM_same]
    · rw [setM_other _ _ q, setM_other _ _ q, h])
theorem Ahd.step {N : Nat} {m : Nat → List UInt8} {D : Dev} (h : Ahd N m D) {k : Nat} (hk : k < 8) (c : UInt8) :
    (D.write (k : Int) (fillOf 1024 c)).1 = 0 ∧ Ahd (N + 1) (upd m k [c]) (D.write (k : Int) (fillOf 1024 c)).2 := by
  have hok := write_ok h.calm.ok (k : Int) (fillOf 1024 c)
  have hw := write_free (D := D) h.calm.off h.calm.armed (by rw [h.calm.fails]) (n := (k : Int)) (s := fillOf 1024 c) (by omega) (by rw [h.calm.size]; omega) (fillOf_size _ _)
  refine ⟨by rw [hw], ?_⟩
  rw [hw] at hok ⊢
  refine ⟨⟨hok, h.calm.size, h.calm.off, h.calm.armed, h.calm.fails⟩, fun n hn => ?_⟩
  dsimp only
  rw [syncTo_app]
  by_cases q : n = k
  · subst q
    rw [setM_same, upd_same]
    exact .inr ⟨c, rfl, rfl⟩
  · rw [setM_other _ _ (by dsimp only; omega), upd_other _ _ q, syncTo_other _ D D.writes _ D.pages (n : Int) (setM_other _ _ (by omega))]
    exact h.one n hn
theorem Ahd.new : Ahd 0 (fun _ => [0]) (Dev.new 8) := ⟨⟨Dev.new_ok 8 0, rfl, rfl, rfl, rfl⟩, fun _ _ => .inl ⟨rfl, rfl⟩⟩
theorem Ahd.sync {N : Nat} {m : Nat → List UInt8} {D : Dev} (h : Ahd N m D) : D.sync.1 = 0 ∧ Bhd (N + 1) m D.sync.2 := by
  have hok := sync_ok h.calm.ok
  have hs := sync_free (D := D) h.calm.off h.calm.armed (by rw [h.calm.fails])
  refine ⟨by rw [hs], ?_⟩
  rw [hs] at hok ⊢
  refine ⟨⟨hok, h.calm.size, h.calm.off, h.calm.armed, h.calm.fails⟩, fun n hn => ?_, fun n hn x hx => ?_, fun p hp => by cases hp⟩
  · unfold lastM
    dsimp only
    rcases h.one n hn with ⟨e, em⟩ | ⟨c, e, em⟩
    · rw [e, em]
      exact fun k _ => ⟨0, by simp, fun j _ => rfl⟩
    · rw [e, em]
      exact sect_fill (by simp)
  · dsimp only at hx
    rcases h.one n hn with ⟨e, em⟩ | ⟨c, e, em⟩
    · rw [e] at hx; cases hx
    · rw [e] at hx
      injection hx with hx
      rw [← hx]
      exact .inl ⟨rfl, by rw [fillOf_size]; omega⟩
/-- A device behind the crash. -/
structure Aft (N : Nat) (m : Nat → List UInt8) (D : Dev) : Prop where
  calm : Calm N D
  now : ∀ n : Nat, n < 8 → Sect (oldAt (nowM D.pages n)) (m n) ∧ (nowM D.pages n).size = 1024
theorem Bhd.crash {N : Nat} {m : Nat → List UInt8} {D : Dev} (h : Bhd N m D) (picks : List Int) : Aft N m (D.crash picks) := by
  have hok := crash_ok h.calm.ok picks
  refine ⟨⟨hok, h.calm.size, rfl, rfl, rfl⟩, fun n hn => ⟨(h.may.crash picks).now hn, ?_⟩⟩
  unfold nowM
  cases e : (D.crash picks).pages (n : Int) with
  | none => exact fillOf_size 1024 0
  | some x => exact (hok.texts _ x e).1
theorem Aft.read {N : Nat} {m : Nat → List UInt8} {D : Dev} (h : Aft N m D) {n : Nat} (hn : n < 8) :
    ∃ s D', D.read (n : Int) = (s, 0, D') ∧ s.size = 1024 ∧ Sect (oldAt s) (m n) ∧ Aft (N + 1) m D' := by
  obtain ⟨h1, h2⟩ := h.calm.read hn
  exact ⟨_, _, h1, (h.now n hn).2, (h.now n hn).1, h2, h.now⟩
end Go.Proofs.Ytonmjkalkkfhhaa
