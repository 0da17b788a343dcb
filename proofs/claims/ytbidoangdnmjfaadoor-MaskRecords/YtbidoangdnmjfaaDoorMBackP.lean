/-
  mask.Read of any bytes, of a record's; and what With leaves: pure.
-/
import Derived.Test.YtbidoangdnmjfaaDoorMReadO
import Derived.Test.YtbidoangdnmjfaaDoorMRecW
namespace Go.Proofs.YtbidoangdnmjfaaDoor
open Go Go.RowKit

theorem mread_any {w : World} (r : ByteArray) (hr : r.size ≤ 9223372036854775807) (hT : DbAt w) : Calls Tryd.prog 11 #[.string r] w fun e w' => RdPost r w e w' := by
  by_cases h : 6 ≤ r.size ∧ r.size = 6 + 32 * cntM (rdH r)
  · exact mread_ok r hr h.1 h.2 hT
  · refine (mread_bad r hr h hT).mono ?_
    rintro e w' ⟨rfl, hB⟩
    have hE : rdE r = false := by
      unfold rdE
      by_cases h1 : 6 ≤ r.size
      · rw [decide_eq_false (p := r.size = 6 + 32 * cntM (rdH r)) (fun h2 => h ⟨h1, h2⟩)]; simp
      · rw [decide_eq_false h1]; simp
    refine ⟨0, 0, 0, .slice none 0 0, [], ?_, .nil _ _, hB, ?_, ?_, ?_, ?_⟩ <;> rw [hE] <;> rfl
theorem chkM_zero {s t h n : Nat} (hc : chkM s t h n = 0) : n = cntM h := by
  unfold chkM at hc
  split at hc
  · next q => exact q.2.2
  · cases hc
/-- A record is read as its branch. -/
theorem mread_rec {w : World} {s t h : Nat} {L : List H32} (hs : s < 65536) (ht : t < 65536) (hh : h < 65536) (hc : chkM s t h L.length = 0) (hT : DbAt w) :
    Calls Tryd.prog 11 #[.string ⟨(recB s t h L).toArray⟩] w fun e w' => ∃ v, e = .returned (.tuple #[brV s t h v, .int .i64 0]) ∧ HashesAt w' v L ∧ Below w.heap.size w w' := by
  have hn := chkM_zero hc
  obtain ⟨r, hr⟩ : ∃ r : ByteArray, (⟨(recB s t h L).toArray⟩ : ByteArray) = r := ⟨_, rfl⟩
  have hl : r.data.toList = recB s t h L := by rw [← hr]
  have hz : r.size = 6 + L.length * 32 := by rw [← recB_len s t h L, ← hl]; rfl
  obtain ⟨r1, r2, r3, r4⟩ := rec_read hs ht hh L
  have hc16 := cntM_le h
  have e1 : rdS r = s := by unfold rdS; rw [hl]; exact r1
  have e2 : rdT r = t := by unfold rdT; rw [hl]; exact r2
  have e3 : rdH r = h := by unfold rdH; rw [hl]; exact r3
  have e4 : rdL r = L := by unfold rdL; rw [e3, hl, ← hn]; exact r4
  have hE : rdE r = true := by
    unfold rdE
    rw [e1, e2, e3, ← hn, decide_eq_true hc, decide_eq_true (show 6 ≤ r.size by omega), decide_eq_true (show r.size = 6 + 32 * L.length by omega)]
    rfl
  rw [hr]
  refine (mread_any r (by omega) hT).mono ?_
  rintro e w' ⟨s', t', h', v, L', rfl, hv, hB, q1, q2, q3, q4⟩
  rw [hE] at q1 q2 q3 q4 ⊢
  simp only [if_true] at q1 q2 q3 q4
  subst q1 q2 q3 q4
  rw [e1, e2, e3]
  rw [e4] at hv
  exact ⟨v, rfl, hv, hB⟩
/-- A ref that is a hash. -/
def refT (x : H32) (i : Nat) : ByteArray := ⟨(160 :: x.1.take i).toArray⟩
theorem refT_size (x : H32) : (refT x 32).size = 33 := by
  have h1 : (x.1.take 32).length = 32 := by rw [List.length_take, x.2]; rfl
  show (160 :: x.1.take 32).length = 33
  rw [List.length_cons, h1]
theorem refT_is (x : H32) : isH (refT x 32) = true := by
  unfold isH
  rw [refT_size]
  rfl
theorem refT_ref (x : H32) : refH (refT x 32) = x := by
  unfold refH
  apply Subtype.ext
  have e : (refT x 32).data.toList.drop 1 = x.1 := by
    show (160 :: x.1.take 32).drop 1 = x.1
    rw [List.drop_succ_cons, List.drop_zero, List.take_of_length_le (by rw [x.2]; exact Nat.le_refl _)]
  rw [e, takeH_val (by rw [x.2]; exact Nat.le_refl _), List.take_of_length_le (by rw [x.2]; exact Nat.le_refl _)]
theorem isH_nil : isH ⟨#[]⟩ = false := by rfl
/-- What the law looks at. -/
structure BackOk (b d o : Br) (k : Nat) (x : H32) : Prop where
  x : hashX d.h d.L (k : Int) = x
  h : hasM d.h (k : Int) = true
  s : hasM d.s (k : Int) = true
  t : hasM d.t (k : Int) = true
  os : hasM o.s (k : Int) = false
  oh : hasM o.h (k : Int) = false
  ot : hasM o.t (k : Int) = false
  dx : ∀ i : Nat, i < 16 → i ≠ k → hashX d.h d.L (i : Int) = hashX b.h b.L (i : Int)
  dh : ∀ i : Nat, i < 16 → i ≠ k → hasM d.h (i : Int) = hasM b.h (i : Int)
  ox : ∀ i : Nat, i < 16 → i ≠ k → hashX o.h o.L (i : Int) = hashX b.h b.L (i : Int)
  ohi : ∀ i : Nat, i < 16 → i ≠ k → hasM o.h (i : Int) = hasM b.h (i : Int)
  osi : ∀ i : Nat, i < 16 → i ≠ k → hasM o.s (i : Int) = hasM b.s (i : Int)
theorem back_ok {b : Br} (hb : b.fits) {k : Nat} (hk : k < 16) (x : H32) : BackOk b (withB b k true (refT x 32)) (withB (withB b k true (refT x 32)) k false ⟨#[]⟩) k x := by
  have hd := withB_fits hb hk true (refT x 32)
  have hsz : ((refT x 32).size != 0) = true := by rw [refT_size]; rfl
  have hnz : ((⟨#[]⟩ : ByteArray).size != 0) = false := rfl
  have bit : ∀ (m : Nat) (is : Bool) (i : Nat), i < 16 → hasM (setM m k is) (i : Int) = if i = k then is else hasM m (i : Int) := fun m is i hi => by
    rw [hasM_nat _ _ hi, hasM_nat _ _ hi]
    exact testBit_setM m k is i
  refine ⟨?_, ?_, ?_, ?_, ?_, ?_, ?_, fun i hi hne => ?_, fun i hi hne => ?_, fun i hi hne => ?_, fun i hi hne => ?_, fun i hi hne => ?_⟩
  · rw [hash_with hb hk true _ k hk, if_pos rfl, refT_is, if_pos rfl, refT_ref]
  · show hasM (setM b.h k (isH (refT x 32))) _ = _
    rw [bit _ _ _ hk, if_pos rfl, refT_is]
  · show hasM (setM b.s k ((refT x 32).size != 0)) _ = _
    rw [bit _ _ _ hk, if_pos rfl, hsz]
  · show hasM (setM b.t k ((refT x 32).size != 0 && true)) _ = _
    rw [bit _ _ _ hk, if_pos rfl, hsz]; rfl
  · show hasM (setM (withB b k true (refT x 32)).s k ((⟨#[]⟩ : ByteArray).size != 0)) _ = _
    rw [bit _ _ _ hk, if_pos rfl]; rfl
  · show hasM (setM (withB b k true (refT x 32)).h k (isH ⟨#[]⟩)) _ = _
    rw [bit _ _ _ hk, if_pos rfl, isH_nil]
  · show hasM (setM (withB b k true (refT x 32)).t k ((⟨#[]⟩ : ByteArray).size != 0 && false)) _ = _
    rw [bit _ _ _ hk, if_pos rfl]; rfl
  · rw [hash_with hb hk true _ i hi, if_neg hne]
  · show hasM (setM b.h k _) _ = _
    rw [bit _ _ _ hi, if_neg hne]
  · rw [hash_with hd hk false _ i hi, if_neg hne, hash_with hb hk true _ i hi, if_neg hne]
  · show hasM (setM (setM b.h k (isH (refT x 32))) k (isH ⟨#[]⟩)) _ = _
    rw [bit _ _ _ hi, if_neg hne, bit _ _ _ hi, if_neg hne]
  · show hasM (setM (setM b.s k ((refT x 32).size != 0)) k ((⟨#[]⟩ : ByteArray).size != 0)) _ = _
    rw [bit _ _ _ hi, if_neg hne, bit _ _ _ hi, if_neg hne]
end Go.Proofs.YtbidoangdnmjfaaDoor
