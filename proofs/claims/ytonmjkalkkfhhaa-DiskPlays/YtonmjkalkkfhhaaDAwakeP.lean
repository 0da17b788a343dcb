/-
  The chapter's examples, as devices.
-/
import Derived.Test.YtonmjkalkkfhhaaDOwn
namespace Go.Proofs.Ytonmjkalkkfhhaa
open Go Go.RowKit Go.Maps

/-- An operation without faults. -/
theorem begin_free {D : Dev} (h1 : D.off = false) (h2 : D.armed = false) (h3 : D.fails (D.count + 1) = none) : D.begin true = (0, { D with count := D.count + 1, ops := D.ops + 1 }) := by
  unfold Dev.begin Dev.next
  rw [h1, h2, h3]
  simp
theorem write_free {D : Dev} (h1 : D.off = false) (h2 : D.armed = false) (h3 : D.fails (D.count + 1) = none) {n : Int} {s : ByteArray} (hn : 0 ≤ n) (hn2 : n < D.size) (hs : s.size = 1024) :
    D.write n s = (0, { D with count := D.count + 1, ops := D.ops + 1, pages := setM D.pages n (some (s, ((D.pages n).getD (⟨#[]⟩, ⟨#[]⟩)).2)), writes := D.writes ++ [(n, s)] }) := by
  unfold Dev.write Dev.has
  rw [decide_eq_true hn, decide_eq_true hn2, decide_eq_true hs]
  simp only [Bool.and_true]
  rw [begin_free h1 h2 h3, if_pos rfl]
theorem read_free {D : Dev} (h1 : D.off = false) (h2 : D.armed = false) (h3 : D.fails (D.count + 1) = none) {n : Int} (hn : 0 ≤ n) (hn2 : n < D.size) :
    D.read n = (((D.pages n).map (·.1)).getD zeros, 0, { D with count := D.count + 1, ops := D.ops + 1 }) := by
  unfold Dev.read Dev.has
  rw [decide_eq_true hn, decide_eq_true hn2]
  simp only [Bool.and_true]
  rw [begin_free h1 h2 h3, if_pos rfl]
theorem sync_free {D : Dev} (h1 : D.off = false) (h2 : D.armed = false) (h3 : D.fails (D.count + 1) = none) :
    D.sync = (0, { D with count := D.count + 1, ops := D.ops + 1, pages := D.syncTo D.writes D.pages, writes := [] }) := by
  unfold Dev.sync
  rw [begin_free h1 h2 h3, if_pos rfl]

/-- Three pages. -/
structure Tx where
  X : ByteArray
  Y : ByteArray
  Z : ByteArray
  hX : X.size = 1024
  hY : Y.size = 1024
  hZ : Z.size = 1024
/-- The torn text. -/
def pT (t : Tx) : ByteArray := tornT t.X t.Y [1, 0, 0, 1]
def x0 : Dev := Dev.new 4
def x1 (t : Tx) : Dev := (x0.write 1 t.X).2
def x2 (t : Tx) : Dev := ((x1 t).read 1).2.2
def x3 (t : Tx) : Dev := (x2 t).sync.2
def x4 (t : Tx) : Dev := ((x3 t).write 1 t.Y).2
def x5 (t : Tx) : Dev := (x4 t).crash [1, 0, 0, 1]
def x6 (t : Tx) : Dev := ((x5 t).read 1).2.2
def x7 (t : Tx) : Dev := { (x6 t) with armed := true, left := max 1 0 }
def x8 (t : Tx) : Dev := ((x7 t).write 2 t.Z).2
def x9 (t : Tx) : Dev := ((x8 t).write 2 t.Z).2
def x10 (t : Tx) : Dev := (x9 t).crash []
def x11 (t : Tx) : Dev := { (x10 t) with fails := failsOf [2], count := 0 }
def x12 (t : Tx) : Dev := ((x11 t).write 3 t.Z).2
def x13 (t : Tx) : Dev := ((x12 t).write 3 t.Z).2
def x14 (t : Tx) : Dev := ((x13 t).write 3 t.Z).2
theorem x0_eq : x0 = { size := 4, pages := fun _ => none, writes := [], ops := 0, off := false, armed := false, left := 0, fails := fun _ => none, count := 0 } := rfl
theorem x1_eq (t : Tx) : x0.write 1 t.X = (0, { x0 with count := 1, ops := 1, pages := setM (fun _ => none) 1 (some (t.X, ⟨#[]⟩)), writes := [(1, t.X)] }) := write_free rfl rfl rfl (by decide) (by decide) t.hX
theorem x2_eq (t : Tx) : (x1 t).read 1 = (t.X, 0, { (x1 t) with count := 2, ops := 2 }) := by
  unfold x1
  rw [(x1_eq t)]
  exact read_free rfl rfl rfl (by decide) (show (1 : Int) < 4 by decide)
theorem x3_eq (t : Tx) : (x2 t).sync = (0, { x0 with count := 3, ops := 3, pages := setM (setM (fun _ => none) 1 (some (t.X, ⟨#[]⟩))) 1 (some (t.X, t.X)), writes := [] }) := by
  unfold x2
  rw [(x2_eq t)]
  unfold x1
  rw [(x1_eq t)]
  exact sync_free rfl rfl rfl
theorem x4_eq (t : Tx) : (x3 t).write 1 t.Y = (0, { x0 with count := 4, ops := 4, pages := setM (setM (setM (fun _ => none) 1 (some (t.X, ⟨#[]⟩))) 1 (some (t.X, t.X))) 1 (some (t.Y, t.X)), writes := [(1, t.Y)] }) := by
  unfold x3
  rw [(x3_eq t)]
  exact write_free rfl rfl rfl (by decide) (show (1 : Int) < 4 by decide) t.hY
theorem anyT : anyAt [1, 0, 0, 1] (min 4 [(1 : Int), 0, 0, 1].length) = true := by decide
theorem range_at (n : Nat) (f : Nat → UInt8) (j : Nat) (h : j < n) : (⟨((List.range n).map f).toArray⟩ : ByteArray).data.toList.getD j 0 = f j := by
  show ((List.range n).map f).getD j 0 = f j
  rw [List.getD_eq_getElem?_getD, List.getElem?_map, List.getElem?_range h]
  rfl
theorem pT_size (t : Tx) : (pT t).size = 1024 := by
  unfold pT tornT
  rw [if_pos anyT]
  exact range_size _ _
theorem fillOf_at (c : UInt8) (j : Nat) (h : j < 1024) : (fillOf 1024 c).data.toList.getD j 0 = c := by
  unfold fillOf
  show (List.replicate 1024 c).getD j 0 = c
  rw [List.getD_eq_getElem?_getD, List.getElem?_replicate, if_pos h]
  rfl
theorem pT_at (t : Tx) (h1 : t.X = fillOf 1024 120) (h2 : t.Y = fillOf 1024 121) (j : Nat) (h : j < 1024) : (pT t).data.toList.getD j 0 = if j / 256 = 0 ∨ j / 256 = 3 then 121 else 120 := by
  unfold pT tornT
  rw [if_pos anyT]
  rw [range_at _ _ _ h, show min 4 [(1 : Int), 0, 0, 1].length = 4 from rfl]
  unfold tornAt oldAt
  rw [h1, h2, fillOf_at _ _ h, fillOf_at _ _ h]
  have h4 : j / 256 = 0 ∨ j / 256 = 1 ∨ j / 256 = 2 ∨ j / 256 = 3 := by omega
  rcases h4 with e | e | e | e <;> rw [e] <;> rfl
theorem x6_eq (t : Tx) : (x5 t).read 1 = ((pT t), 0, { (x5 t) with count := 1, ops := 5 }) := by
  have hp : ((x5 t).pages 1) = some ((pT t), (pT t)) := by
    unfold x5 x4
    rw [(x4_eq t)]
    unfold Dev.crash
    simp only [crashTo]
    unfold keepM
    have e : ((setM (setM (setM (fun _ => none) 1 (some (t.X, ⟨#[]⟩))) 1 (some (t.X, t.X))) 1 (some (t.Y, t.X)) 1).getD ((⟨#[]⟩, ⟨#[]⟩) : Pg)).2 = t.X := by rw [setM_same]; rfl
    dsimp only
    rw [e]
    rw [show tornT t.X t.Y [1, 0, 0, 1] = pT t from rfl, pT_size t, if_neg (by decide), setM_same]
  have h5 : (x5 t).ops = 4 := by unfold x5 x4; rw [(x4_eq t)]; rfl
  have := read_free (D := (x5 t)) rfl rfl rfl (n := 1) (by decide) (by unfold x5 x4; rw [(x4_eq t)]; exact (show (1 : Int) < 4 by decide))
  rw [this, hp, h5]
  rfl
theorem x5_size (t : Tx) : (x5 t).size = 4 := by unfold x5 x4; rw [(x4_eq t)]; rfl
theorem x8_eq (t : Tx) : ((x7 t).write 2 t.Z).1 = 0 ∧ (x8 t).armed = true ∧ (x8 t).left = 0 ∧ (x8 t).off = false ∧ (x8 t).size = 4 := by
  have e : (x7 t).begin true = (0, { (x7 t) with left := 0, count := (x7 t).count + 1, ops := (x7 t).ops + 1, off := false }) := by
    unfold x7 x6
    rw [(x6_eq t)]
    rfl
  have hs : (x7 t).size = 4 := by unfold x7 x6; rw [(x6_eq t)]; exact (x5_size t)
  have hw : (x7 t).write 2 t.Z = (0, { (x7 t) with left := 0, count := (x7 t).count + 1, ops := (x7 t).ops + 1, off := false, pages := setM (x7 t).pages 2 (some (t.Z, (((x7 t).pages 2).getD (⟨#[]⟩, ⟨#[]⟩)).2)), writes := (x7 t).writes ++ [(2, t.Z)] }) := by
    unfold Dev.write Dev.has
    rw [hs, decide_eq_true t.hZ]
    show (if ((x7 t).begin true).1 = 0 then _ else _) = _
    rw [show ((decide ((0 : Int) ≤ 2) && decide ((2 : Int) < 4)) && true) = true from rfl, e, if_pos rfl]
  unfold x8
  rw [hw]
  exact ⟨rfl, rfl, rfl, rfl, hs⟩
theorem x9_eq (t : Tx) : ((x8 t).write 2 t.Z).1 = 15 ∧ (x9 t).off = true ∧ (x9 t).size = 4 := by
  obtain ⟨_, h1, h2, h3, h4⟩ := (x8_eq t)
  have e : (x8 t).begin true = (15, { (x8 t) with off := true }) := by
    unfold Dev.begin Dev.next
    rw [h1, h2, h3]
    simp
  have hw : (x8 t).write 2 t.Z = (15, { (x8 t) with off := true }) := by
    unfold Dev.write Dev.has
    rw [h4, decide_eq_true t.hZ, show ((decide ((0 : Int) ≤ 2) && decide ((2 : Int) < 4)) && true) = true from rfl, e, if_neg (fun q => by cases q)]
  unfold x9
  rw [hw]
  exact ⟨rfl, rfl, h4⟩
theorem x11_eq (t : Tx) : (x11 t).off = false ∧ (x11 t).armed = false ∧ (x11 t).fails = failsOf [2] ∧ (x11 t).count = 0 ∧ (x11 t).size = 4 := ⟨rfl, rfl, rfl, rfl, (x9_eq t).2.2⟩
theorem x12_eq (t : Tx) : ((x11 t).write 3 t.Z).1 = 0 ∧ (x12 t).off = false ∧ (x12 t).armed = false ∧ (x12 t).fails = failsOf [2] ∧ (x12 t).count = 1 ∧ (x12 t).size = 4 := by
  obtain ⟨h1, h2, h3, h4, h5⟩ := (x11_eq t)
  have hw := write_free (D := (x11 t)) h1 h2 (by rw [h3, h4]; decide) (n := 3) (s := t.Z) (by decide) (by rw [h5]; decide) t.hZ
  unfold x12
  rw [hw]
  exact ⟨rfl, h1, h2, h3, by rw [h4]; rfl, h5⟩
theorem x13_eq (t : Tx) : ((x12 t).write 3 t.Z).1 = 14 ∧ (x13 t).off = false ∧ (x13 t).armed = false ∧ (x13 t).fails = failsOf [2] ∧ (x13 t).count = 2 ∧ (x13 t).size = 4 := by
  obtain ⟨_, h1, h2, h3, h4, h5⟩ := (x12_eq t)
  have e : (x12 t).begin true = (14, { (x12 t) with count := 2 }) := by
    unfold Dev.begin Dev.next
    rw [h1, h2, h3, h4]
    simp [failsOf, h1, h2, h3]
  have hw : (x12 t).write 3 t.Z = (14, { (x12 t) with count := 2 }) := by
    unfold Dev.write Dev.has
    rw [h5, decide_eq_true t.hZ, show ((decide ((0 : Int) ≤ 3) && decide ((3 : Int) < 4)) && true) = true from rfl, e, if_neg (fun q => by cases q)]
  unfold x13
  rw [hw]
  exact ⟨rfl, h1, h2, h3, rfl, h5⟩
theorem x14_eq (t : Tx) : ((x13 t).write 3 t.Z).1 = 0 ∧ (x14 t).size = 4 := by
  obtain ⟨_, h1, h2, h3, h4, h5⟩ := (x13_eq t)
  have hw := write_free (D := (x13 t)) h1 h2 (by rw [h3, h4]; decide) (n := 3) (s := t.Z) (by decide) (by rw [h5]; decide) t.hZ
  unfold x14
  rw [hw]
  exact ⟨rfl, h5⟩
theorem ok0 : x0.ok 0 := Dev.new_ok _ _
theorem ok1 (t : Tx) : (x1 t).ok 1 := write_ok ok0 _ _
theorem ok2 (t : Tx) : (x2 t).ok 2 := read_ok (ok1 t) _
theorem ok3 (t : Tx) : (x3 t).ok 3 := sync_ok (ok2 t)
theorem ok4 (t : Tx) : (x4 t).ok 4 := write_ok (ok3 t) _ _
theorem ok5 (t : Tx) : (x5 t).ok 4 := crash_ok (ok4 t) _
theorem ok6 (t : Tx) : (x6 t).ok 5 := read_ok (ok5 t) _
theorem ok7 (t : Tx) : (x7 t).ok 5 := ⟨(ok6 t).size, (ok6 t).keys, (ok6 t).texts, (ok6 t).writes, (ok6 t).many, (ok6 t).ops, ⟨show (0 : Int) ≤ max 1 0 by decide, show (max 1 0 : Int) ≤ 9223372036854775807 by decide⟩, (ok6 t).count⟩
theorem ok8 (t : Tx) : (x8 t).ok 6 := write_ok (ok7 t) _ _
theorem ok9 (t : Tx) : (x9 t).ok 7 := write_ok (ok8 t) _ _
theorem ok10 (t : Tx) : (x10 t).ok 7 := crash_ok (ok9 t) _
theorem ok11 (t : Tx) : (x11 t).ok 7 := ⟨(ok10 t).size, (ok10 t).keys, (ok10 t).texts, (ok10 t).writes, (ok10 t).many, (ok10 t).ops, (ok10 t).left, ⟨show (0 : Int) ≤ 0 by decide, show (0 : Int) ≤ ((7 : Nat) : Int) by decide⟩⟩
theorem ok12 (t : Tx) : (x12 t).ok 8 := write_ok (ok11 t) _ _
theorem ok13 (t : Tx) : (x13 t).ok 9 := write_ok (ok12 t) _ _
end Go.Proofs.Ytonmjkalkkfhhaa
