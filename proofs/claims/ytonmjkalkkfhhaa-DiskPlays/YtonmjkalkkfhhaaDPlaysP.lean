/-
  What DiskPlays leans on: the document's device as plain data, and how it stands beside the program's. Nothing of memory.
-/
import Derived.Test.YtonmjkalkkfhhaaDLastsP
namespace Go.Proofs.Ytonmjkalkkfhhaa
open Go Go.RowKit Go.Maps

/-- The document's device. -/
structure RDev where
  most : Int
  lasts : List ByteArray
  puts : List (Int × ByteArray)
  off : Bool
  done : Int
  armed : Bool
  left : Int
  fails : List Int
  since : Int
def noText : ByteArray := ⟨#[]⟩
/-- What lasts of a page, none: the empty text. -/
def lst (l : List ByteArray) (u : Int) : ByteArray := l.getD u.toNat noText
def RDev.last (R : RDev) (n : Int) : ByteArray := if (lst R.lasts n).size ≠ 0 then lst R.lasts n else zeros
/-- A page lasts. -/
def setL (l : List ByteArray) (n : Nat) (s : ByteArray) : List ByteArray := (l ++ List.replicate (n + 1 - l.length) noText).set n s
theorem lst_set (l : List ByteArray) (n : Nat) (s : ByteArray) (u : Int) (hu : 0 ≤ u) : lst (setL l n s) u = if u = (n : Int) then s else lst l u := by
  unfold lst setL
  rw [List.getD_eq_getElem?_getD, List.getD_eq_getElem?_getD]
  have hlen : n < (l ++ List.replicate (n + 1 - l.length) noText).length := by rw [List.length_append, List.length_replicate]; omega
  by_cases e : u = (n : Int)
  · rw [if_pos e, show u.toNat = n by omega, List.getElem?_set_self hlen]
    rfl
  · rw [if_neg e, List.getElem?_set_ne (by omega)]
    by_cases h : u.toNat < l.length
    · rw [List.getElem?_append_left h]
    · rw [List.getElem?_append_right (by omega), List.getElem?_eq_none (l := l) (by omega), List.getElem?_replicate]
      split <;> rfl
/-- What was put on a page last. -/
def lastPut (puts : List (Int × ByteArray)) (u : Int) : Option ByteArray := puts.foldl (fun o p => if p.1 = u then some p.2 else o) none
theorem foldPut (puts : List (Int × ByteArray)) (u : Int) (o : Option ByteArray) : puts.foldl (fun o p => if p.1 = u then some p.2 else o) o = (lastPut puts u).or o := by
  unfold lastPut
  induction puts generalizing o with
  | nil => rfl
  | cons p L ih =>
    rw [List.foldl_cons, List.foldl_cons, ih, ih (if p.1 = u then some p.2 else none)]
    by_cases e : p.1 = u
    · rw [if_pos e, if_pos e]
      cases L.foldl (fun o p => if p.1 = u then some p.2 else o) none <;> rfl
    · rw [if_neg e, if_neg e]
      cases L.foldl (fun o p => if p.1 = u then some p.2 else o) none <;> rfl
theorem lastPut_app (puts : List (Int × ByteArray)) (p : Int × ByteArray) (u : Int) : lastPut (puts ++ [p]) u = if p.1 = u then some p.2 else lastPut puts u := by
  unfold lastPut
  rw [List.foldl_append]
  rfl
theorem lastPut_cons (p : Int × ByteArray) (L : List (Int × ByteArray)) (u : Int) : lastPut (p :: L) u = (lastPut L u).or (if p.1 = u then some p.2 else none) := by
  unfold lastPut
  rw [List.foldl_cons]
  exact foldPut L u _
theorem lastPut_mem {puts : List (Int × ByteArray)} {u : Int} {s : ByteArray} (h : lastPut puts u = some s) : (u, s) ∈ puts := by
  induction puts with
  | nil => cases h
  | cons p L ih =>
    rw [lastPut_cons] at h
    cases hl : lastPut L u with
    | some t =>
      rw [hl] at h
      injection h with h
      subst h
      exact List.mem_cons_of_mem _ (ih hl)
    | none =>
      rw [hl] at h
      by_cases e : p.1 = u
      · rw [if_pos e] at h
        injection h with h
        subst h e
        exact List.mem_cons_self
      · rw [if_neg e] at h
        cases h
/-- A page, by what lasts and what was put. -/
def pgOf (l : List ByteArray) (puts : List (Int × ByteArray)) (u : Int) : Option Pg :=
  match lastPut puts u with
  | some s => some (s, lst l u)
  | none => if (lst l u).size = 0 then none else some (lst l u, lst l u)
theorem noText_of {s : ByteArray} (h : s.size = 0) : s = noText := size_zero h
theorem pgOf_lasting (l : List ByteArray) (puts : List (Int × ByteArray)) (u : Int) : ((pgOf l puts u).getD (⟨#[]⟩, ⟨#[]⟩)).2 = lst l u := by
  unfold pgOf
  cases lastPut puts u with
  | some s => rfl
  | none =>
    dsimp only
    by_cases h : (lst l u).size = 0
    · rw [if_pos h]; exact (noText_of h).symm
    · rw [if_neg h]; rfl
/-- The two stand alike. -/
structure Sim (D : Dev) (R : RDev) : Prop where
  size : D.size = R.most
  off : D.off = R.off
  ops : D.ops = R.done
  armed : D.armed = R.armed
  left : D.left = R.left
  writes : D.writes = R.puts
  pages : ∀ u, 0 ≤ u → D.pages u = pgOf R.lasts R.puts u
  low : ∀ u, u < 0 → D.pages u = none
  fails : ∀ c, (D.fails c).isSome = decide (c ∈ R.fails)
  count : R.fails ≠ [] → D.count = R.since
  full : ∀ u, 0 ≤ u → (lst R.lasts u).size = 0 ∨ (lst R.lasts u).size = 1024
  puts : ∀ p ∈ R.puts, 0 ≤ p.1 ∧ p.2.size = 1024
def RDev.new (n : Int) : RDev := ⟨keptP n, [], [], false, 0, false, 0, [], 0⟩
theorem Sim.new (n : Int) : Sim (Dev.new n) (RDev.new n) :=
  ⟨rfl, rfl, rfl, rfl, rfl, rfl, fun _ _ => rfl, fun _ _ => rfl, fun _ => rfl, fun h => absurd rfl h, fun _ _ => .inl rfl, fun p hp => by cases hp⟩
theorem Sim.limit {D : Dev} {R : RDev} (h : Sim D R) (n : Int) : Sim { D with size := keptP n } { R with most := keptP n } :=
  ⟨rfl, h.off, h.ops, h.armed, h.left, h.writes, h.pages, h.low, h.fails, h.count, h.full, h.puts⟩
theorem Sim.arm {D : Dev} {R : RDev} (h : Sim D R) (n : Int) : Sim { D with armed := true, left := max n 0 } { R with armed := true, left := max n 0 } :=
  ⟨h.size, h.off, h.ops, rfl, rfl, h.writes, h.pages, h.low, h.fails, h.count, h.full, h.puts⟩
theorem Sim.clear {D : Dev} {R : RDev} (h : Sim D R) : Sim { D with armed := false, left := 0, fails := fun _ => Option.none, count := 0 } { R with armed := false, left := 0, fails := [] } :=
  ⟨h.size, h.off, h.ops, rfl, rfl, h.writes, h.pages, h.low, fun _ => rfl, fun q => absurd rfl q, h.full, h.puts⟩
theorem Sim.fail {D : Dev} {R : RDev} (h : Sim D R) (l : List Int) : Sim { D with fails := failsOf l, count := 0 } { R with fails := l, since := 0 } :=
  ⟨h.size, h.off, h.ops, h.armed, h.left, h.writes, h.pages, h.low, fun c => by
    dsimp only
    unfold failsOf
    by_cases e : c ∈ l
    · rw [if_pos e, decide_eq_true e]; rfl
    · rw [if_neg e, decide_eq_false e]; rfl, fun _ => rfl, h.full, h.puts⟩
/-- Does the operation get through? -/
def RDev.goes (R : RDev) : Int × RDev :=
  if R.armed = true ∧ R.left = 0 then (15, { R with off := true })
  else if R.since + 1 ∈ R.fails then (14, { R with left := if R.armed then R.left - 1 else R.left, since := R.since + 1 })
  else (0, { R with left := if R.armed then R.left - 1 else R.left, since := R.since + 1, done := R.done + 1 })
def RDev.begin (R : RDev) (right : Bool) : Int × RDev := if R.off then (15, R) else if right then R.goes else (1, R)
theorem Sim.begin {D : Dev} {R : RDev} (h : Sim D R) (right : Bool) : (D.begin right).1 = (R.begin right).1 ∧ Sim (D.begin right).2 (R.begin right).2 := by
  unfold Dev.begin RDev.begin
  rw [h.off]
  cases hoff : R.off
  · simp only [Bool.false_eq_true, if_false]
    cases right
    · simp only [Bool.false_eq_true, if_false]
      exact ⟨trivial, h⟩
    · simp only [if_true]
      unfold RDev.goes Dev.next
      rw [h.armed, h.left]
      by_cases ha : R.armed = true ∧ R.left = 0
      · rw [if_pos ha, if_pos ha]
        exact ⟨rfl, h.size, rfl, h.ops, h.armed, h.left, h.writes, h.pages, h.low, h.fails, h.count, h.full, h.puts⟩
      · rw [if_neg ha, if_neg ha]
        have hf : (D.fails (D.count + 1)).isSome = decide (R.since + 1 ∈ R.fails) := by
          rw [h.fails]
          by_cases hn : R.fails = []
          · rw [hn]; simp
          · rw [h.count hn]
        rw [hf]
        by_cases hm : R.since + 1 ∈ R.fails
        · rw [if_pos hm, decide_eq_true hm]
          exact ⟨rfl, h.size, by simp [hoff], h.ops, rfl, by simp, h.writes, h.pages, h.low, h.fails, fun q => by dsimp only; rw [h.count q], h.full, h.puts⟩
        · rw [if_neg hm, decide_eq_false hm]
          exact ⟨rfl, h.size, by simp [hoff], by simp [h.ops], rfl, by simp, h.writes, h.pages, h.low, h.fails, fun q => by dsimp only; rw [h.count q], h.full, h.puts⟩
  · simp only [if_true]
    exact ⟨trivial, h⟩
def RDev.has (R : RDev) (n : Int) : Bool := decide (0 ≤ n) && decide (n < R.most)
def RDev.text (R : RDev) (n : Int) : ByteArray := (lastPut R.puts n).getD (R.last n)
def RDev.read (R : RDev) (n : Int) : ByteArray × Int × RDev :=
  if (R.begin (R.has n)).1 = 0 then (R.text n, 0, (R.begin (R.has n)).2) else (⟨#[]⟩, R.begin (R.has n))
theorem begin_same (R : RDev) (r : Bool) : (R.begin r).2.lasts = R.lasts ∧ (R.begin r).2.puts = R.puts := by
  unfold RDev.begin RDev.goes
  split
  · exact ⟨rfl, rfl⟩
  · split
    · split
      · exact ⟨rfl, rfl⟩
      · split <;> exact ⟨rfl, rfl⟩
    · exact ⟨rfl, rfl⟩
theorem Sim.has {D : Dev} {R : RDev} (h : Sim D R) (n : Int) : D.has n = R.has n := by
  unfold Dev.has RDev.has
  rw [h.size]
theorem begin_right {R : RDev} {r : Bool} (h : (R.begin r).1 = 0) : r = true := by
  unfold RDev.begin at h
  split at h
  · cases h
  · cases r
    · rw [if_neg (by decide)] at h; cases h
    · rfl
theorem has_low {R : RDev} {n : Int} (h : R.has n = true) : 0 ≤ n := by
  unfold RDev.has at h
  simp at h
  exact h.1
theorem Sim.read {D : Dev} {R : RDev} (h : Sim D R) (n : Int) : (D.read n).1 = (R.read n).1 ∧ (D.read n).2.1 = (R.read n).2.1 ∧ Sim (D.read n).2.2 (R.read n).2.2 := by
  obtain ⟨h1, h2⟩ := h.begin (R.has n)
  unfold Dev.read RDev.read
  rw [h.has, h1]
  by_cases e : (R.begin (R.has n)).1 = 0
  · rw [if_pos e, if_pos e]
    refine ⟨?_, rfl, h2⟩
    dsimp only
    rw [h.pages n (has_low (begin_right e))]
    unfold RDev.text pgOf RDev.last
    cases lastPut R.puts n with
    | some s => rfl
    | none =>
      dsimp only
      by_cases q : (lst R.lasts n).size = 0
      · rw [if_pos q, if_neg (by omega)]; rfl
      · rw [if_neg q, if_pos q]; rfl
  · rw [if_neg e, if_neg e]
    exact ⟨rfl, h1, h2⟩
def RDev.write (R : RDev) (n : Int) (s : ByteArray) : Int × RDev :=
  if (R.begin (R.has n && decide (s.size = 1024))).1 = 0 then (0, { (R.begin (R.has n && decide (s.size = 1024))).2 with puts := R.puts ++ [(n, s)] }) else R.begin (R.has n && decide (s.size = 1024))
theorem Sim.write {D : Dev} {R : RDev} (h : Sim D R) (n : Int) (s : ByteArray) : (D.write n s).1 = (R.write n s).1 ∧ Sim (D.write n s).2 (R.write n s).2 := by
  obtain ⟨h1, h2⟩ := h.begin (R.has n && decide (s.size = 1024))
  unfold Dev.write RDev.write
  rw [h.has, h1]
  by_cases e : (R.begin (R.has n && decide (s.size = 1024))).1 = 0
  · rw [if_pos e, if_pos e]
    have hr := begin_right e
    simp only [Bool.and_eq_true, decide_eq_true_eq] at hr
    have hn := has_low hr.1
    obtain ⟨hl, _⟩ := begin_same R (R.has n && decide (s.size = 1024))
    refine ⟨rfl, h2.size, h2.off, h2.ops, h2.armed, h2.left, by dsimp only; rw [h.writes], fun u hu => ?_, fun u hu => ?_, h2.fails, h2.count, h2.full, fun p hp => ?_⟩
    · dsimp only
      rw [hl]
      unfold pgOf
      rw [lastPut_app]
      by_cases q : u = n
      · subst q
        rw [setM_same, if_pos rfl, h.pages u hu, pgOf_lasting]
      · rw [setM_other _ _ q, if_neg (fun e => q e.symm), h.pages u hu]
        rfl
    · dsimp only
      rw [setM_other _ _ (by omega)]
      exact h.low u hu
    · rcases List.mem_append.1 hp with q | q
      · exact h.puts p q
      · rw [List.mem_singleton.1 q]
        exact ⟨hn, hr.2⟩
  · rw [if_neg e, if_neg e]
    exact ⟨h1, h2⟩
/-- What lasts behind a sync. -/
def syncL : List (Int × ByteArray) → List ByteArray → List ByteArray
  | [], l => l
  | p :: L, l => syncL L (setL l p.1.toNat p.2)
theorem lst_sync : ∀ (L : List (Int × ByteArray)) (l : List ByteArray) (u : Int), 0 ≤ u → (∀ p ∈ L, 0 ≤ p.1) → lst (syncL L l) u = (lastPut L u).getD (lst l u)
  | [], _, _, _, _ => rfl
  | p :: L, l, u, hu, hp => by
    rw [syncL, lst_sync L _ u hu (fun q hq => hp q (List.mem_cons_of_mem _ hq)), lst_set _ _ _ _ hu, lastPut_cons]
    have h0 := hp p List.mem_cons_self
    cases lastPut L u with
    | some s => rfl
    | none =>
      show (if u = (p.1.toNat : Int) then p.2 else lst l u) = (if p.1 = u then some p.2 else none).getD (lst l u)
      by_cases e : p.1 = u
      · rw [if_pos e, if_pos (by omega)]; rfl
      · rw [if_neg e, if_neg (by omega)]; rfl
theorem syncTo_at (D : Dev) : ∀ (L : List (Int × ByteArray)) (M : Int → Option Pg) (u : Int), D.syncTo L M u = match lastPut L u with | some s => some (s, s) | none => M u
  | [], _, _ => rfl
  | p :: L, M, u => by
    rw [Dev.syncTo, syncTo_at D L _ u, lastPut_cons]
    cases lastPut L u with
    | some s => rfl
    | none =>
      dsimp only
      by_cases e : p.1 = u
      · subst e
        rw [setM_same, if_pos rfl]
        rfl
      · rw [setM_other _ _ (fun q => e q.symm), if_neg e]
        rfl
def RDev.sync (R : RDev) : Int × RDev := if (R.begin true).1 = 0 then (0, { (R.begin true).2 with lasts := syncL R.puts R.lasts, puts := [] }) else R.begin true
theorem Sim.sync {D : Dev} {R : RDev} (h : Sim D R) : D.sync.1 = R.sync.1 ∧ Sim D.sync.2 R.sync.2 := by
  obtain ⟨h1, h2⟩ := h.begin true
  unfold Dev.sync RDev.sync
  rw [h1]
  by_cases e : (R.begin true).1 = 0
  · rw [if_pos e, if_pos e]
    have hl : ∀ u, 0 ≤ u → lst (syncL R.puts R.lasts) u = (lastPut R.puts u).getD (lst R.lasts u) := fun u hu => lst_sync _ _ u hu (fun p hp => (h.puts p hp).1)
    refine ⟨rfl, h2.size, h2.off, h2.ops, h2.armed, h2.left, rfl, fun u hu => ?_, fun u hu => ?_, h2.fails, h2.count, fun u hu => ?_, fun p hp => by cases hp⟩
    · dsimp only
      rw [h.writes, syncTo_at, h.pages u hu]
      unfold pgOf
      rw [hl u hu]
      show _ = if ((lastPut R.puts u).getD (lst R.lasts u)).size = 0 then _ else _
      cases hp : lastPut R.puts u with
      | some s =>
        have := (h.puts _ (lastPut_mem hp)).2
        dsimp only at this
        show some (s, s) = if s.size = 0 then none else some (s, s)
        rw [if_neg (by omega)]
      | none => rfl
    · dsimp only
      rw [h.writes, syncTo_at]
      cases hp : lastPut R.puts u with
      | some s =>
        have := (h.puts _ (lastPut_mem hp)).1
        dsimp only at this
        omega
      | none => exact h.low u hu
    · dsimp only
      rw [hl u hu]
      cases hp : lastPut R.puts u with
      | some s => exact .inr (h.puts _ (lastPut_mem hp)).2
      | none => exact h.full u hu
  · rw [if_neg e, if_neg e]
    exact ⟨h1, h2⟩
/-- What the document makes of what lasts, at a crash. -/
def tornR (old data : ByteArray) (picks : List Int) : ByteArray := tornT (if old.size ≠ 0 then old else zeros) data picks
theorem tornT_zero (data : ByteArray) (picks : List Int) (h : anyAt picks (min 4 picks.length) = true) : tornT zeros data picks = tornT noText data picks := by
  unfold tornT
  rw [if_pos h, if_pos h, show (List.range 1024).map (tornAt zeros data picks (min 4 picks.length)) = (List.range 1024).map (tornAt noText data picks (min 4 picks.length)) from List.map_congr_left fun j hj => by
    have hj := List.mem_range.1 hj
    unfold tornAt
    split
    · rfl
    · exact oldAt_fill 1024 0 hj]
def crashL : List (Int × ByteArray) → List Int → List ByteArray → List ByteArray
  | [], _, l => l
  | p :: L, picks, l => crashL L (picks.drop 4) (if anyAt picks (min 4 picks.length) = true then setL l p.1.toNat (tornR (lst l p.1) p.2 picks) else l)
/-- On the way through a crash. -/
structure InvC (l : List ByteArray) (L : List (Int × ByteArray)) (M : Int → Option Pg) : Prop where
  lasting : ∀ u, 0 ≤ u → ((M u).getD (⟨#[]⟩, ⟨#[]⟩)).2 = lst l u
  rest : ∀ u, 0 ≤ u → lastPut L u = none → M u = if (lst l u).size = 0 then none else some (lst l u, lst l u)
  low : ∀ u, u < 0 → M u = none
  full : ∀ u, 0 ≤ u → (lst l u).size = 0 ∨ (lst l u).size = 1024
theorem tornT_full (old data : ByteArray) (picks : List Int) (h : anyAt picks (min 4 picks.length) = true) : (tornT old data picks).size = 1024 := by
  unfold tornT
  have e : ∀ (f : Nat → UInt8) (n : Nat), (ByteArray.mk ((List.range n).map f).toArray).size = n := fun f n => by
    show (((List.range n).map f).toArray).size = n
    simp
  rw [if_pos h]
  exact e _ 1024
theorem InvC.step {l : List ByteArray} {p : Int × ByteArray} {L : List (Int × ByteArray)} {M : Int → Option Pg} (h : InvC l (p :: L) M) (hp : 0 ≤ p.1) (picks : List Int) :
    InvC (if anyAt picks (min 4 picks.length) = true then setL l p.1.toNat (tornR (lst l p.1) p.2 picks) else l) L (keepM M p picks) := by
  have hold : ((M p.1).getD (⟨#[]⟩, ⟨#[]⟩)).2 = lst l p.1 := h.lasting p.1 hp
  by_cases ha : anyAt picks (min 4 picks.length) = true
  · have ht : tornR (lst l p.1) p.2 picks = tornT (lst l p.1) p.2 picks := by
      unfold tornR
      by_cases hz : (lst l p.1).size ≠ 0
      · rw [if_pos hz]
      · rw [if_neg hz, tornT_zero _ _ ha, noText_of (s := lst l p.1) (by omega)]
    have hts := tornT_full (lst l p.1) p.2 picks ha
    rw [if_pos ha, ht]
    have hls : ∀ u, 0 ≤ u → lst (setL l p.1.toNat (tornT (lst l p.1) p.2 picks)) u = if u = p.1 then tornT (lst l p.1) p.2 picks else lst l u := fun u hu => by
      rw [lst_set _ _ _ _ hu, show ((p.1.toNat : Nat) : Int) = p.1 by omega]
    have hk : keepM M p picks = setM M p.1 (some (tornT (lst l p.1) p.2 picks, tornT (lst l p.1) p.2 picks)) := by
      unfold keepM
      rw [hold, if_neg (by omega)]
    rw [hk]
    refine ⟨fun u hu => ?_, fun u hu hn => ?_, fun u hu => ?_, fun u hu => ?_⟩
    · rw [hls u hu]
      by_cases e : u = p.1
      · rw [e, setM_same, if_pos rfl]; rfl
      · rw [setM_other _ _ e, if_neg e]; exact h.lasting u hu
    · rw [hls u hu]
      by_cases e : u = p.1
      · rw [e, setM_same, if_pos rfl, if_neg (by omega)]
      · rw [setM_other _ _ e, if_neg e]
        exact h.rest u hu (by rw [lastPut_cons, hn, if_neg (fun q => e q.symm)]; rfl)
    · rw [setM_other _ _ (by omega)]; exact h.low u hu
    · rw [hls u hu]
      by_cases e : u = p.1
      · rw [if_pos e]; exact .inr hts
      · rw [if_neg e]; exact h.full u hu
  · rw [if_neg ha]
    have ht : tornT (lst l p.1) p.2 picks = lst l p.1 := by unfold tornT; rw [if_neg ha]
    have hk : keepM M p picks = setM M p.1 (if (lst l p.1).size = 0 then none else some (lst l p.1, lst l p.1)) := by
      unfold keepM
      rw [hold, ht]
      split <;> rfl
    rw [hk]
    refine ⟨fun u hu => ?_, fun u hu hn => ?_, fun u hu => ?_, h.full⟩
    · by_cases e : u = p.1
      · rw [e, setM_same]
        by_cases hz : (lst l p.1).size = 0
        · rw [if_pos hz]; exact (noText_of hz).symm
        · rw [if_neg hz]; rfl
      · rw [setM_other _ _ e]; exact h.lasting u hu
    · by_cases e : u = p.1
      · rw [e, setM_same]
      · rw [setM_other _ _ e]
        exact h.rest u hu (by rw [lastPut_cons, hn, if_neg (fun q => e q.symm)]; rfl)
    · rw [setM_other _ _ (by omega)]; exact h.low u hu
theorem InvC.all : ∀ {L : List (Int × ByteArray)} {l : List ByteArray} {M : Int → Option Pg} (picks : List Int), InvC l L M → (∀ p ∈ L, 0 ≤ p.1) → InvC (crashL L picks l) [] (crashTo L picks M)
  | [], _, _, _, h, _ => h
  | _ :: _, _, _, picks, h, hp => InvC.all (picks.drop 4) (h.step (hp _ List.mem_cons_self) picks) (fun q hq => hp q (List.mem_cons_of_mem _ hq))
def RDev.crash (R : RDev) (picks : List Int) : RDev := { R with lasts := crashL R.puts picks R.lasts, puts := [], off := false, armed := false, left := 0, fails := [] }
theorem Sim.crash {D : Dev} {R : RDev} (h : Sim D R) (picks : List Int) : Sim (D.crash picks) (R.crash picks) := by
  have h0 : InvC R.lasts R.puts D.pages := ⟨fun u hu => by rw [h.pages u hu, pgOf_lasting], fun u hu hn => by rw [h.pages u hu]; unfold pgOf; rw [hn], h.low, h.full⟩
  have h1 := h0.all picks (fun p hp => (h.puts p hp).1)
  rw [← h.writes] at h1
  refine ⟨h.size, rfl, h.ops, rfl, rfl, rfl, fun u hu => ?_, h1.low, fun _ => rfl, fun q => absurd rfl q, fun u hu => ?_, fun p hp => by cases hp⟩
  · have := h1.rest u hu rfl
    show crashTo D.writes picks D.pages u = _
    rw [this, h.writes]
    rfl
  · have := h1.full u hu
    rw [h.writes] at this
    exact this
/-- How many pages are used. -/
structure UsedIs (M : Int → Option Pg) (n : Int) : Prop where
  all : ∀ u x, M u = some x → u < n
  low : 0 ≤ n
  one : n = 0 ∨ ∃ x, M (n - 1) = some x
theorem UsedIs.inj {M : Int → Option Pg} {n m : Int} (h : UsedIs M n) (k : UsedIs M m) : n = m := by
  have a := h.low
  have b := k.low
  rcases h.one with e | ⟨x, e⟩
  · rcases k.one with e' | ⟨y, e'⟩
    · omega
    · have := h.all _ _ e'; omega
  · have h1 := k.all _ _ e
    rcases k.one with e' | ⟨y, e'⟩
    · omega
    · have := h.all _ _ e'; omega
end Go.Proofs.Ytonmjkalkkfhhaa
