/-
  What BitsetBack leans on.
-/
import Derived.Test.YtiokbhbggpibpaaBGB
import Derived.Test.YtiokbhbggpibpaaBReadW
import Derived.Test.YtiokbhbggpibpaaBUnionW
import Derived.Test.YtiokbhbggpibpaaBCutsW
namespace Go.Proofs.Ytiokbhbggpibpaa
open Go Go.RowKit Go.Maps

theorem bytesM_len (M : Nat → Bool) : (bytesM M).length ≤ 301989888 := restB_len M (uppers M 0) 0 (uppers_len M 0)
theorem mk_list (l : List UInt8) : (ByteArray.mk l.toArray).data.toList = l := rfl
theorem read_back {M : Nat → Bool} (hM : ∀ n, M n = true → n < 2147483648) (w : World) :
    Calls Try.prog 28 #[.string ⟨(bytesM M).toArray⟩] w fun e w' => ∃ b, e = .returned (.tuple #[.pointer (some ⟨b, 0, none⟩), .int .i64 0]) ∧ ∃ mo, SetAt w' b mo M ∧ w.heap.size ≤ b ∧ (∀ m, mo = some m → w.heap.size ≤ m) ∧ Below w.heap.size w w' := by
  have hsz : (ByteArray.mk (bytesM M).toArray).size ≤ 2147483648 := by
    have := bytesM_len M
    show (bytesM M).toArray.size ≤ _
    simp
    omega
  refine (read_any ⟨(bytesM M).toArray⟩ hsz w).mono ?_
  rintro e w' ⟨hB, ⟨N, b, rfl, mo, hs, hb, hm, hN⟩ | ⟨_, hno⟩⟩
  · have hN' : bytesM N = bytesM M := hN.trans (mk_list _)
    have := bytesM_inj hs.map.bound hM hN'
    subst this
    exact ⟨b, rfl, mo, hs, hb, hm, hB⟩
  · exact absurd (mk_list _).symm (hno M hM)
theorem memFrom_inj {A B : Nat → Bool} (hA : ∀ n, A n = true → n < 2147483648) (hB : ∀ n, B n = true → n < 2147483648) (h : memFrom A 0 = memFrom B 0) : A = B := by
  funext n
  rw [Bool.eq_iff_iff]
  have h1 := mem_memFrom hA (f := 0) (n := n)
  have h2 := mem_memFrom hB (f := 0) (n := n)
  rw [h] at h1
  constructor
  · intro h; exact (h2.1 (h1.2 ⟨Nat.zero_le _, h⟩)).2
  · intro h; exact (h1.1 (h2.2 ⟨Nat.zero_le _, h⟩)).2
theorem OwnInts.intsAt {w : World} {base : Nat} {v : Value} {L : List Nat} (h : OwnInts w base v L) : ∃ p c, v = .slice p L.length c ∧ IntsAt w (.slice p L.length c) (L.map fun x : Nat => (x : Int)) := by
  obtain ⟨p, c, rfl, hL⟩ := h.ints
  refine ⟨p, c, rfl, ?_⟩
  cases L with
  | nil => exact .inl ⟨rfl, p, c, rfl⟩
  | cons a t =>
    obtain ⟨g, rfl, _⟩ := hL 0 a rfl
    refine .inr ⟨g, 0, c, by simp, fun i hi => ?_⟩
    have hi' : i < (a :: t).length := by simpa using hi
    obtain ⟨g', e, hc, _⟩ := hL i _ (List.getElem?_eq_getElem hi')
    injection e with e
    injection e with e1 _ _
    subst e1
    rw [Nat.zero_add, hc, List.getD_eq_getElem?_getD, List.getElem?_map, List.getElem?_eq_getElem hi']
    rfl
theorem map_inj {L K : List Nat} (h : L.map (fun x : Nat => (x : Int)) = K.map fun x : Nat => (x : Int)) : L = K := List.map_inj_right (fun a b e => by omega) |>.1 h
theorem nodup_sub : ∀ (l k : List Nat), l.Nodup → (∀ x ∈ l, x ∈ k) → l.length ≤ k.length
  | [], _, _, _ => Nat.zero_le _
  | a :: l, k, h, hs => by
    have ha := hs a (by simp)
    have hn := List.nodup_cons.1 h
    have := nodup_sub l (k.erase a) hn.2 fun x hx => (List.mem_erase_of_ne (fun e : x = a => hn.1 (by rw [← e]; exact hx))).2 (hs x (by simp [hx]))
    rw [List.length_erase_of_mem ha] at this
    have h0 := List.length_pos_of_mem ha
    simp
    omega
/-- How many there are in both together at most. -/
theorem card_uni {A B : Nat → Bool} (hA : ∀ n, A n = true → n < 2147483648) (hB : ∀ n, B n = true → n < 2147483648) : card (fun n => A n || B n) ≤ card A + card B := by
  have hU : ∀ n, (fun n => A n || B n) n = true → n < 2147483648 := fun n h => by
    simp at h
    rcases h with h | h
    · exact hA n h
    · exact hB n h
  rw [card_len, card_len, card_len, ← List.length_append]
  refine nodup_sub _ _ (rising_nodup (memFrom_rises _ 0)) fun x hx => ?_
  have h := ((mem_memFrom hU).1 hx).2
  rw [List.mem_append, mem_memFrom hA, mem_memFrom hB]
  simp at h
  rcases h with h | h
  · exact .inl ⟨Nat.zero_le _, h⟩
  · exact .inr ⟨Nat.zero_le _, h⟩
theorem hasI_of {l : List Int} {x : Int} (hx : x ∈ l) : hasI (ofInts l) x = decide (0 ≤ x ∧ x ≤ 2147483647) := by
  unfold hasI ofInts
  by_cases h0 : 0 ≤ x
  · rw [show ((x.toNat : Nat) : Int) = x by omega]
    rw [Bool.eq_iff_iff]
    simp [h0, hx]
    omega
  · simp [h0]
theorem hasI_uni (A B : Nat → Bool) (x : Int) : hasI (fun n => A n || B n) x = (hasI A x || hasI B x) := by
  unfold hasI
  cases decide (0 ≤ x) <;> simp
theorem hasI_hi {M : Nat → Bool} (hM : ∀ n, M n = true → n < 2147483648) {x : Int} (h : ¬ (0 ≤ x ∧ x ≤ 2147483647)) : hasI M x = false := by
  unfold hasI
  by_cases h0 : 0 ≤ x
  · cases hm : M x.toNat with
    | false => simp
    | true => have := hM _ hm; omega
  · simp [h0]
/-- A number is loaded, if it is wanted. -/
theorem wpQ_ldIw {ops : Array Oper} {rest : List Oper} {op : Oper} {a : Act} {C : World → Prop} {Q : Act → Prop} (hw : Region.wanted op (yielded ops a.tmps) = true) (x : Operand) (ho : op.op = .load 3 x)
    {ad : Addr} (hx : a.eval x = .pointer (some ad)) {v : Value} (hh : ∀ w, C w → w.cell? ad = some v)
    (h : wpQuiet Try.prog ops C Q rest (a.put op.dst v)) : wpQuiet Try.prog ops C Q (op :: rest) a :=
  wpQuiet_step fun _ hK => by
    rw [if_pos hw]
    refine ⟨v, fun w hw => ?_, hK _ h⟩
    have hl : (loadVar 3 ad).run Try.prog w = .ok v w := by simp [go_sem, hh w hw]
    unfold Oper.quietAt execOp
    simp only [ho, hx, Instr.loadAt, Instr.sureAddr, Sem.run_bind, Sem.run_pure, Result.andThen_ok, hl]
    exact ⟨rfl, rfl⟩
end Go.Proofs.Ytiokbhbggpibpaa
