/-
  Texts of this claim, put together.
-/
import Derived.Test.YtjklcnknbcmgoaaGreatDoorGDevP
import Derived.Test.YtjklcnknbcmgoaaGreatDoorDC
/-
  What a device without faults reads at a page.
-/
namespace Go.Proofs.YtjklcnknbcmgoaaGreatDoor
open Go Go.RowKit Go.Maps

/-- What is read at a page. -/
def front (D : Dev) (n : Int) : ByteArray := ((D.pages n).map (·.1)).getD zeros
/-- What was written to a page last, of some writes. -/
def lastW : List (Int × ByteArray) → Int → Option ByteArray → Option ByteArray
  | [], _, o => o
  | p :: L, n, o => lastW L n (if n = p.1 then some p.2 else o)
theorem lastW_app (L : List (Int × ByteArray)) (p : Int × ByteArray) (n : Int) (o : Option ByteArray) : lastW (L ++ [p]) n o = if n = p.1 then some p.2 else lastW L n o := by
  induction L generalizing o with
  | nil => rfl
  | cons q L ih => simp only [List.cons_append, lastW, ih]
theorem lastW_or (L : List (Int × ByteArray)) (n : Int) (o : Option ByteArray) : lastW L n o = (lastW L n none).or o := by
  induction L generalizing o with
  | nil => simp [lastW]
  | cons q L ih =>
    simp only [lastW]
    by_cases h : n = q.1
    · rw [if_pos h, if_pos h, ih]
      cases lastW L n none <;> simp
    · rw [if_neg h, if_neg h, ih]
theorem syncTo_last (D : Dev) (L : List (Int × ByteArray)) (M : Int → Option Pg) (n : Int) : D.syncTo L M n = match lastW L n none with | some t => some (t, t) | none => M n := by
  induction L generalizing M with
  | nil => rfl
  | cons q L ih =>
    simp only [Dev.syncTo, ih, lastW]
    rw [lastW_or L n (if n = q.1 then some q.2 else none)]
    cases lastW L n none with
    | some t => rfl
    | none =>
      by_cases h : n = q.1
      · subst h
        simp [setM]
      · simp [setM, h]
/-- The pages tell what was written last. -/
def Fw (D : Dev) : Prop := ∀ n t, lastW D.writes n none = some t → (D.pages n).map (·.1) = some t
theorem fw_new (n : Int) : Fw (Dev.new n) := fun n t h => by cases h
theorem fw_read {D : Dev} (h : Cm D) (f : Fw D) {n : Int} (hn : D.has n = true) : Fw (D.read n).2.2 ∧ ∀ k, front (D.read n).2.2 k = front D k := by
  obtain ⟨a1, a2, a3, a4, a5, a6⟩ := cm_read h hn
  refine ⟨fun k t hk => ?_, fun k => ?_⟩
  · rw [a6] at hk
    rw [a4]
    exact f k t hk
  · unfold front
    rw [a4]
theorem fw_write {D : Dev} (h : Cm D) (f : Fw D) {n : Int} (hn : D.has n = true) {s : ByteArray} (hs : s.size = 1024) : Fw (D.write n s).2 ∧ (front (D.write n s).2 n = s) ∧ ∀ k, k ≠ n → front (D.write n s).2 k = front D k := by
  obtain ⟨b1, b2, b3, b4, b5⟩ := cm_write h hn hs
  refine ⟨fun k t hk => ?_, ?_, fun k hk => ?_⟩
  · rw [b5, lastW_app] at hk
    rw [b3]
    unfold setM
    by_cases e : k = n
    · rw [if_pos e] at hk
      rw [if_pos e]
      simpa using hk
    · rw [if_neg e] at hk
      rw [if_neg e]
      exact f k t hk
  · unfold front
    rw [b3, setM_same]
    rfl
  · unfold front
    rw [b3, setM_other _ _ hk]
theorem fw_sync {D : Dev} (h : Cm D) (f : Fw D) : Fw D.sync.2 ∧ ∀ k, front D.sync.2 k = front D k := by
  obtain ⟨c1, c2, c3, c4, c5⟩ := cm_sync h
  refine ⟨fun k t hk => ?_, fun k => ?_⟩
  · rw [c5] at hk; cases hk
  · unfold front
    rw [c4, syncTo_last]
    cases e : lastW D.writes k none with
    | none => rfl
    | some t =>
      rw [f k t e]
      rfl
/-- A page that was sealed is read as it was. -/
theorem front_read {D : Dev} (h : Cm D) {n : Int} (hn : D.has n = true) {k : UInt8} {s : ByteArray} (hs : s.size ≤ 1013) (hf : front D n = K.sealS k s) : (D.read n).2.1 = 0 ∧ K.openS (D.read n).1 = some (k, s) := by
  obtain ⟨a1, a2, a3, a4, a5, a6⟩ := cm_read h hn
  refine ⟨a2, ?_⟩
  rw [a1]
  show K.openS (front D n) = _
  rw [hf, K.open_seal k hs]
end Go.Proofs.YtjklcnknbcmgoaaGreatDoor
/-
  The text of a page, of the law's.
-/
namespace Go.Proofs.YtjklcnknbcmgoaaGreatDoor
open Go Go.RowKit Go.Maps

/-- Its bytes. -/
def textB (b : UInt8) (n : Nat) : List UInt8 := (List.range 40).map fun j => UInt8.ofNat (b.toNat + n * j)
theorem textB_len (b : UInt8) (n : Nat) : (textB b n).length = 40 := by simp [textB]
theorem textB_get (b : UInt8) (n : Nat) {j : Nat} (hj : j < 40) : (((textB b n).getD j 0).toNat : Nat) = (b.toNat + n * j) % 256 := by
  rw [List.getD_eq_getElem?_getD]
  simp [textB, hj]
def textS (b : UInt8) (n : Nat) : ByteArray := ⟨(textB b n).toArray⟩
theorem textS_size (b : UInt8) (n : Nat) : (textS b n).size = 40 := textB_len b n
set_option maxRecDepth 8000 in
set_option maxHeartbeats 1000000 in
theorem text_any (c : UInt8) (k : Nat) (hk : k < 6) (w : World) :
    Calls Tryz.prog 37 #[.int .u8 (c.toNat : Nat), .int .i64 (k : Nat)] w fun e w' => e = .returned (.string (textS c k)) ∧ Below w.heap.size w w' := by
  have hmk : ∀ w, (Instr.makeSlice 120 (.int .i64 40) (.int .i64 40)).run Tryz.prog w = .ok (.slice (some ⟨w.heap.size, 0, none⟩) 40 40) (w.alloc (.cells (madeCells #[.int .u8 0] 40) 5)) := run_make_row' (P := Tryz.prog) 120 5 (.int .u8 0) 1 underBytes (by kernel_rfl) rfl .i64 .i64 40 (by omega) (by omega)
  have hr0 := World.rowIs_made w (.int .u8 0) 40 5
  have hB0 := below_new1 w (.cells (madeCells #[.int .u8 0] 40) 5)
  obtain ⟨W0, hW0⟩ : ∃ W, w.alloc (.cells (madeCells #[.int .u8 0] 40) 5) = W := ⟨_, rfl⟩
  have hmk0 := hmk w
  rw [hW0] at hr0 hB0 hmk0
  clear hmk hW0
  obtain ⟨g, hg⟩ : ∃ g, g = w.heap.size := ⟨_, rfl⟩
  rw [← hg] at hmk0 hr0
  have HG : Hid (w.heap.size ≤ g) := by show _ ≤ _; omega
  clear hg
  obtain ⟨n, hn⟩ : ∃ n : Nat, n = c.toNat := ⟨_, rfl⟩
  have hn2 : n < 256 := by rw [hn]; exact c.toNat_lt
  have HN : Hid (n = c.toNat) := hn
  rw [← hn]
  clear hn
  go_enter Tryz.func37, Tryz.ntmps37
  go_wp2_with fail
  go_loopw [6] (fun z wr => ∃ i : Nat, i ≤ 40 ∧ z = .int .i64 (i : Nat) ∧ Below w.heap.size w wr ∧ wr.rowIs g 5 40 (fun j => if j < i then .int .u8 (((n + k * j) % 256 : Nat) : Int) else .int .u8 0)) (fun z _ => 40 - (Lib.intOf z).toNat)
  case atStart => exact ⟨0, by omega, rfl, hB0, hr0.congr fun i hi => by simp⟩
  case round =>
    obtain ⟨i, hi, rfl, hB, hr⟩ := hrel
    by_cases hlt : i < 40
    · have hii : (i : Int) < 40 := by omega
      have hi0 : (0 : Int) ≤ i := by omega
      have hci : wr.cell? ⟨g, i, none⟩ = some (.int .u8 0) := by have := hr.cell (i := i) hlt; rwa [if_neg (by omega)] at this
      have hfi := hr.frozen i
      obtain ⟨p, hp⟩ : ∃ p : Nat, k * i = p := ⟨_, rfl⟩
      have hp2 : p ≤ 195 := by rw [← hp]; exact Nat.le_trans (Nat.mul_le_mul (show k ≤ 5 by omega) (show i ≤ 39 by omega)) (by decide)
      have hpi : (k : Int) * i = p := by rw [← hp]; simp
      have HR2 : Hid (wr.rowIs g 5 40 (fun j => if j < i then .int .u8 (((n + k * j) % 256 : Nat) : Int) else .int .u8 0)) := hr
      have HP : Hid (k * i = p) := hp
      clear hr hp
      go_wp2_with fail
      go_roundw
      case rel =>
        refine ⟨i + 1, by omega, rfl, hB.setCell (by have := HG.out; show _ ≤ g; omega) _, ?_⟩
        refine (HR2.out.set i _).congr fun j hj => ?_
        by_cases e : j = i
        · subst e
          rw [if_pos rfl, if_pos (by omega), HP.out]
          congr 1
        · rw [if_neg e]
          by_cases q1 : j < i
          · rw [if_pos q1, if_pos (by omega)]
          · rw [if_neg q1, if_neg (by omega)]
      case measure => simp [Lib.intOf]; omega
    · have hii : ¬ (i : Int) < 40 := by omega
      have hcv := convert_row (l := textB c k) (cap := 40) (w := wr) (b := g) (by
        rw [textB_len]
        refine hr.congr fun j hj => ?_
        rw [if_pos (by omega), HN.out, ← textB_get c k hj])
      rw [textB_len] at hcv
      change _ = Result.ok (Value.string (textS c k)) wr at hcv
      clear hr
      go_wp2_with fail
      go_ret
      exact ⟨rfl, hB⟩
end Go.Proofs.YtjklcnknbcmgoaaGreatDoor
