/-
  Things that come in: how they lie in memory, what they weigh; the document's count of them.
-/
import Derived.Test.YtikpmafmmjfioaaRRPure
namespace Go.Proofs.Ytikpmafmmjfioaa
open Go Go.RowKit

/-- A row lies in memory from an address on, in blocks of S alone: its texts and rows as great as may be. -/
def LiesU (w : World) (S : Nat → Prop) : Row → Option Addr → Prop
  | .nil, _ => True
  | .item b s inner rest, a => ∃ bk o a' c', a = some ⟨bk, o, none⟩ ∧ S bk ∧ w.cell? ⟨bk, o, none⟩ = some (.bool b) ∧ w.cell? ⟨bk, o + 1, none⟩ = some (.string ⟨s.toArray⟩) ∧
      w.cell? ⟨bk, o + 2, none⟩ = some (.slice a' inner.len c') ∧ s.length ≤ 9223372036854775807 ∧ inner.len ≤ 9223372036854775807 ∧ LiesU w S inner a' ∧ LiesU w S rest (some ⟨bk, o + 3, none⟩)
theorem LiesU.mono {w : World} {S S' : Nat → Prop} (hS : ∀ k, S k → S' k) : ∀ {r : Row} {a : Option Addr}, LiesU w S r a → LiesU w S' r a
  | .nil, _, _ => trivial
  | .item b s inner rest, a, h => by
    obtain ⟨bk, o, a', c', h1, h2, h3, h4, h5, h6, h7, h8, h9⟩ := h
    exact ⟨bk, o, a', c', h1, hS _ h2, h3, h4, h5, h6, h7, h8.mono hS, h9.mono hS⟩
theorem LiesU.kept {w w' : World} {S : Nat → Prop} (hS : ∀ k, S k → w'.heap[k]? = w.heap[k]?) : ∀ {r : Row} {a : Option Addr}, LiesU w S r a → LiesU w' S r a
  | .nil, _, _ => trivial
  | .item b s inner rest, a, h => by
    obtain ⟨bk, o, a', c', h1, h2, h3, h4, h5, h6, h7, h8, h9⟩ := h
    have hc : ∀ j, w'.cell? ⟨bk, j, none⟩ = w.cell? ⟨bk, j, none⟩ := fun j => World.cell?_of_block (hS bk h2)
    exact ⟨bk, o, a', c', h1, h2, (hc _).trans h3, (hc _).trans h4, (hc _).trans h5, h6, h7, h8.kept hS, h9.kept hS⟩
theorem Lies.u {w : World} {S : Nat → Prop} : ∀ {r : Row} {a : Option Addr}, Lies w S r a → LiesU w S r a
  | .nil, _, _ => trivial
  | .item b s inner rest, a, h => by
    obtain ⟨bk, o, a', c', h1, h2, h3, h4, h5, h6, h7, h8, h9⟩ := h
    exact ⟨bk, o, a', c', h1, h2, h3, h4, h5, by omega, by omega, h8.u, h9.u⟩
theorem LiesU.get {w : World} {S : Nat → Prop} : ∀ {r : Row} {a : Option Addr} (_ : LiesU w S r a) (k : Nat), k < r.len → ∃ bk o a' c', a = some ⟨bk, o, none⟩ ∧ S bk ∧
    w.cell? ⟨bk, o + 3 * k, none⟩ = some (.bool (r.at k).1) ∧ w.cell? ⟨bk, o + 3 * k + 1, none⟩ = some (.string ⟨(r.at k).2.1.toArray⟩) ∧ w.cell? ⟨bk, o + 3 * k + 2, none⟩ = some (.slice a' (r.at k).2.2.len c') ∧
    (r.at k).2.1.length ≤ 9223372036854775807 ∧ (r.at k).2.2.len ≤ 9223372036854775807 ∧ LiesU w S (r.at k).2.2 a'
  | .nil, _, _, k, hk => by simp [Row.len] at hk
  | .item b s inner rest, a, h, 0, _ => by
    obtain ⟨bk, o, a', c', h1, h2, h3, h4, h5, h6, h7, h8, _⟩ := h
    exact ⟨bk, o, a', c', h1, h2, h3, h4, h5, h6, h7, h8⟩
  | .item b s inner rest, a, h, k + 1, hk => by
    obtain ⟨bk, o, _, _, h1, h2, _, _, _, _, _, _, h9⟩ := h
    obtain ⟨bk2, o2, a', c', e1, e2, e3, e4, e5, e6, e7, e8⟩ := h9.get k (by simpa [Row.len] using hk)
    injection e1 with e1
    injection e1 with q1 q2 _
    subst q1
    subst q2
    exact ⟨bk, o, a', c', h1, h2, by rw [show o + 3 * (k + 1) = o + 3 + 3 * k by omega]; exact e3, by rw [show o + 3 * (k + 1) + 1 = o + 3 + 3 * k + 1 by omega]; exact e4, by rw [show o + 3 * (k + 1) + 2 = o + 3 + 3 * k + 2 by omega]; exact e5, e6, e7, e8⟩

/-- What the things of a row weigh. -/
def Row.wt : Row → Nat
  | .nil => 0
  | .item _ s i r => 1 + s.length / 64 + i.wt + r.wt
def Row.wtT : Row → Nat → Nat
  | _, 0 => 0
  | .nil, _ => 0
  | .item _ s i r, k + 1 => 1 + s.length / 64 + i.wt + r.wtT k
theorem Row.wtT_step : ∀ (r : Row) (k : Nat), k < r.len → r.wtT (k + 1) = r.wtT k + (1 + (r.at k).2.1.length / 64 + (r.at k).2.2.wt)
  | .nil, k, h => by simp [Row.len] at h
  | .item b s i r, 0, _ => by simp [Row.wtT, Row.at]
  | .item b s i r, k + 1, h => by
    have := Row.wtT_step r k (by simpa [Row.len] using h)
    rw [Row.wtT, this, Row.wtT]
    show _ = _ + (1 + (r.at k).2.1.length / 64 + (r.at k).2.2.wt)
    omega
theorem Row.wtT_len : ∀ (r : Row), r.wtT r.len = r.wt
  | .nil => rfl
  | .item b s i r => by rw [Row.len, Row.wtT, Row.wt, Row.wtT_len r]
theorem Row.len_le_wt : ∀ (r : Row), r.len ≤ r.wt
  | .nil => Nat.le_refl _
  | .item b s i r => by have := Row.len_le_wt r; rw [Row.len, Row.wt]; omega
theorem LiesU.lies {w : World} {S : Nat → Prop} : ∀ {r : Row} {a : Option Addr}, r.wt ≤ 100000 → LiesU w S r a → Lies w S r a
  | .nil, _, _, _ => trivial
  | .item b s inner rest, a, hw, h => by
    rw [Row.wt] at hw
    obtain ⟨bk, o, a', c', h1, h2, h3, h4, h5, h6, h7, h8, h9⟩ := h
    have := Row.len_le_wt inner
    exact ⟨bk, o, a', c', h1, h2, h3, h4, h5, by omega, by omega, h8.lies (by omega), h9.lies (by omega)⟩

set_option maxRecDepth 8000 in
set_option maxHeartbeats 4000000 in
theorem nodes_any (N : Nat) : ∀ (i : Row) (b : Bool) (s : List UInt8) (a : Option Addr) (c : Nat) (most : Nat) (w : World), i.sz < N → s.length ≤ 9223372036854775807 → i.len ≤ 9223372036854775807 → most ≤ 2000 →
    LiesU w (fun k => k < w.heap.size) i a →
    Calls Try.prog 10 #[.agg #[.bool b, .string ⟨s.toArray⟩, .slice a i.len c], .int .i64 most] w fun e w' =>
      (∃ r : Nat, e = .returned (.int .i64 r) ∧ r ≤ most + 288230376151711744 ∧ (r ≤ most → 1 + s.length / 64 + i.wt ≤ r)) ∧ Below w.heap.size w w' := by
  induction N with
  | zero => intro i b s a c most w h; omega
  | succ N ih =>
    intro i b s a c most w hN hs hlen hm hl
    have IH : Hid _ := ih
    clear ih
    obtain ⟨L, hL⟩ : ∃ L, L = i.len := ⟨_, rfl⟩
    have HL : Hid (L = i.len) := hL
    rw [← hL] at hlen ⊢
    clear hL
    have hLi : (L : Int) ≤ 9223372036854775807 := by omega
    have hss : (⟨s.toArray⟩ : ByteArray).size = s.length := rfl
    obtain ⟨q, hq⟩ : ∃ q, q = s.length / 64 := ⟨_, rfl⟩
    have hqi : (s.length : Int) / 64 = q := by omega
    have hqb : q ≤ 144115188075855872 := by omega
    have HQ : Hid (q = s.length / 64) := hq
    clear hq
    obtain ⟨n, hn⟩ : ∃ n, n = w.heap.size := ⟨_, rfl⟩
    have HN : Hid (n = w.heap.size) := hn
    have H1 : Hid (LiesU w (fun k => k < w.heap.size) i a) := hl
    clear hn hl
    go_enter Try.func10, Try.ntmps10
    go_wp2_with fail
    rw [← HN.out]
    go_loopw [5, 6] (fun z y wr => ∃ (k m : Nat), k ≤ L ∧ z = .int .i64 m ∧ y = .int .i64 k ∧ m ≤ most + 288230376151711744 ∧ Hid (m ≤ most → 1 + q + i.wtT k ≤ m) ∧ Below n w wr ∧ n < wr.heap.size ∧ Holds wr n 24 #[.bool b, .string ⟨s.toArray⟩, .slice a L c]) (fun _ y _ => L - (intOf y).toNat)
    case atStart =>
      refine ⟨0, 1 + q, by omega, ?_, rfl, by omega, fun _ => ?_, ?_, ?_, ?_⟩
      · congr 1
      · cases i <;> simp [Row.wtT]
      · rw [HN.out]; exact (Below.refl _ _).alloc (Nat.le_refl _) _
      · rw [World.size_alloc, HN.out]; omega
      · rw [HN.out]; exact Holds.new w _ _
    case round =>
      obtain ⟨k, m, hk, rfl, rfl, hmb, HM, hB, hsz, hh⟩ := hrel
      have f2 := hh.cell 2
      simp at f2
      by_cases hlt : k < L
      · have hki : (k : Int) < L := by omega
        by_cases hmm : m ≤ most
        · have hmi : (m : Int) ≤ most := by omega
          obtain ⟨bk, o, a', c', rfl, hbk, p0, p1, p2, pl, pll, pL⟩ := H1.out.get k (by have := HL.out; omega)
          have hsz2 := Row.at_sz i k (by have := HL.out; omega)
          have hst := Row.wtT_step i k (by have := HL.out; omega)
          rcases hat : i.at k with ⟨bb, ss, ii⟩
          rw [hat] at p0 p1 p2 pl pll pL hsz2 hst
          dsimp only at p0 p1 p2 pl pll pL hsz2 hst
          rw [Nat.mul_comm 3 k] at p0 p1 p2
          have hcw : ∀ j, wr.cell? ⟨bk, j, none⟩ = w.cell? ⟨bk, j, none⟩ := fun j => hB.cell (p := ⟨bk, j, none⟩) (by show bk < n; have := HN.out; omega)
          have d0 : wr.cell? ⟨bk, o + k * 3, none⟩ = some (.bool bb) := (hcw _).trans p0
          have d1 : wr.cell? ⟨bk, o + k * 3 + 1, none⟩ = some (.string ⟨ss.toArray⟩) := (hcw _).trans p1
          have d2 : wr.cell? ⟨bk, o + k * 3 + 2, none⟩ = some (.slice a' ii.len c') := (hcw _).trans p2
          have HLW : Hid (LiesU wr (fun k => k < wr.heap.size) ii a') := (pL.kept fun j hj => hB.block j (by have := HN.out; omega)).mono fun j hj => by have := HN.out; omega
          have HST : Hid (i.wtT (k + 1) = i.wtT k + (1 + ss.length / 64 + ii.wt)) := hst
          have HSZ : Hid (ii.sz < N) := by simp only [Hid]; omega
          have hsub : ((most : Int) - m) = ((most - m : Nat) : Int) := by omega
          obtain ⟨d, hd⟩ : ∃ d, d = most - m := ⟨_, rfl⟩
          rw [← hd] at hsub
          have hdm : d ≤ 2000 := by omega
          have HD : Hid (d = most - m) := hd
          clear hat p0 p1 p2 pL hcw hst hsz2 hd
          go_wp2_with fail
          refine (IH.out ii bb ss a' c' d wr HSZ.out pl pll hdm HLW.out).mono ?_
          rintro e w2 ⟨⟨r, rfl, hr1, hr2⟩, h2⟩
          have HR2 : Hid (r ≤ d → 1 + ss.length / 64 + ii.wt ≤ r) := hr2
          have hrb : (m : Int) + r ≤ 9223372036854775807 := by have := HD.out; omega
          have hB2 := hB.trans (h2.mono (by omega))
          have hh2 := below_holds h2 hh
          have hz2 := h2.size
          clear hr2
          go_wp2_with fail
          go_roundw
          case rel =>
            refine ⟨k + 1, m + r, by omega, by congr 1, rfl, by have := HD.out; omega, fun hle => ?_, hB2, by omega, hh2⟩
            have := HD.out
            have h3 := HM.out (by omega)
            have h4 := HR2.out (by omega)
            rw [HST.out]; omega
          case measure => simp [intOf]; omega
        · have hmi : ¬ (m : Int) ≤ most := by omega
          go_wp2_with fail
          go_ret
          exact ⟨⟨m, rfl, hmb, fun h => absurd h hmm⟩, by rw [HN.out] at hB; exact hB⟩
      · have hki : ¬ (k : Int) < L := by omega
        have hkk : k = L := by omega
        go_wp2_with fail
        go_ret
        refine ⟨⟨m, rfl, hmb, fun h => ?_⟩, by rw [HN.out] at hB; exact hB⟩
        have h1 := HM.out h
        rw [hkk, HL.out, Row.wtT_len] at h1
        rw [← HQ.out]; exact h1
end Go.Proofs.Ytikpmafmmjfioaa
