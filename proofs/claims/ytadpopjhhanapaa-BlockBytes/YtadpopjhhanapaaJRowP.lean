/-
  Slots and writes that rows of things would be; rows of slots of one's own.
-/
import Derived.Test.YtadpopjhhanapaaJAcctW
namespace Go.Proofs.Ytadpopjhhanapaa
open Go Go.RowKit

def Row.nth : Row → Nat → Bool × List UInt8 × Row
  | .nil, _ => (false, [], .nil)
  | .item b s i _, 0 => (b, s, i)
  | .item _ _ _ r, k + 1 => r.nth k
theorem Lies.nth {w : World} {S : Nat → Prop} : ∀ {r : Row} {a : Option Addr} (_ : Lies w S r a) (k : Nat), k < r.len → ∃ bk o a' c', a = some ⟨bk, o, none⟩ ∧ S bk ∧
      w.cell? ⟨bk, o + k * 3, none⟩ = some (.bool (r.nth k).1) ∧ w.cell? ⟨bk, o + k * 3 + 1, none⟩ = some (.string ⟨(r.nth k).2.1.toArray⟩) ∧ w.cell? ⟨bk, o + k * 3 + 2, none⟩ = some (.slice a' (r.nth k).2.2.len c') ∧
      (r.nth k).2.2.len < 4611686018427387904 ∧ Lies w S (r.nth k).2.2 a'
  | .nil, _, _, k, h => by simp [Row.len] at h
  | .item b s i r, a, hl, 0, _ => by
    obtain ⟨bk, o, a', c', h1, h2, h3, h4, h5, _, h7, h8, _⟩ := hl
    exact ⟨bk, o, a', c', h1, h2, by rw [Nat.zero_mul]; exact h3, by rw [Nat.zero_mul]; exact h4, by rw [Nat.zero_mul]; exact h5, h7, h8⟩
  | .item b s i r, a, hl, k + 1, hk => by
    obtain ⟨bk, o, a', c', h1, h2, _, _, _, _, _, _, h9⟩ := hl
    obtain ⟨bk2, o2, a2, c2, g1, g2, g3, g4, g5, g6, g7⟩ := Lies.nth h9 k (by simp only [Row.len] at hk; omega)
    cases g1
    refine ⟨bk, o, a2, c2, h1, h2, ?_, ?_, ?_, g6, g7⟩
    · rw [show o + (k + 1) * 3 = o + 3 + k * 3 by omega]; exact g3
    · rw [show o + (k + 1) * 3 = o + 3 + k * 3 by omega]; exact g4
    · rw [show o + (k + 1) * 3 = o + 3 + k * 3 by omega]; exact g5
/-- A row of things that lies in memory. -/
def LiesB (w : World) (r : Row) (a : Option Addr) : Prop := Lies w (fun k => k < w.heap.size) r a
theorem LiesB.below {w w' : World} {r : Row} {a : Option Addr} (h : LiesB w r a) (hb : Below w.heap.size w w') : LiesB w' r a :=
  Lies.mono (fun _ hk => Nat.lt_of_lt_of_le hk hb.size) (Lies.kept (fun k hk => hb.block k hk) h)
theorem LiesB.nth {w : World} {r : Row} {a : Option Addr} (h : LiesB w r a) (k : Nat) (hk : k < r.len) : ∃ bk o a' c', a = some ⟨bk, o, none⟩ ∧
      w.cell? ⟨bk, o + k * 3, none⟩ = some (.bool (r.nth k).1) ∧ w.cell? ⟨bk, o + k * 3 + 1, none⟩ = some (.string ⟨(r.nth k).2.1.toArray⟩) ∧ w.cell? ⟨bk, o + k * 3 + 2, none⟩ = some (.slice a' (r.nth k).2.2.len c') ∧
      (r.nth k).2.2.len < 4611686018427387904 ∧ LiesB w (r.nth k).2.2 a' := by
  obtain ⟨bk, o, a', c', h1, _, h3, h4, h5, h6, h7⟩ := Lies.nth h k hk
  exact ⟨bk, o, a', c', h1, h3, h4, h5, h6, h7⟩
def txtAt (r : Row) (k : Nat) : ByteArray := ⟨(r.nth k).2.1.toArray⟩
def rowAt (r : Row) (k : Nat) : Row := (r.nth k).2.2
def slotR (i : Row) : Sl := if i.len = 2 then ⟨txtAt i 0, txtAt i 1⟩ else ⟨⟨#[]⟩, ⟨#[]⟩⟩
def slotsR (r : Row) : List Sl := (List.range r.len).map fun k => slotR (rowAt r k)
def wr0 : Wr := ⟨⟨#[]⟩, false, false, 0, ⟨#[]⟩, ⟨#[]⟩, .slice none 0 0, []⟩
def writeR (i : Row) (v : Value) : Wr := if i.len = 6 then ⟨txtAt i 0, decide (txtAt i 1 = ⟨#[1]⟩), decide (txtAt i 1 = ⟨#[2]⟩), uintV (txtAt i 2).data.toList, txtAt i 3, txtAt i 4, v, slotsR (rowAt i 5)⟩ else { wr0 with s := v }
/-- A write apart from where its slots lie. -/
def Wr.bare (x : Wr) : Wr := { x with s := .slice none 0 0 }
def writesR (r : Row) : List Wr := (List.range r.len).map fun k => writeR (rowAt r k) (.slice none 0 0)
theorem slotsR_len (r : Row) : (slotsR r).length = r.len := by simp [slotsR]
theorem writesR_len (r : Row) : (writesR r).length = r.len := by simp [writesR]
theorem range_take (n k : Nat) (h : k ≤ n) : (List.range n).take k = List.range k := by
  rw [List.take_range, Nat.min_eq_left h]
theorem slotsR_take (r : Row) (k : Nat) (hk : k < r.len) : (slotsR r).take (k + 1) = (slotsR r).take k ++ [slotR (rowAt r k)] := by
  unfold slotsR
  rw [← List.map_take, ← List.map_take, range_take _ _ hk, range_take _ _ (by omega), List.range_succ, List.map_append]; rfl
theorem writesR_take (r : Row) (k : Nat) (hk : k < r.len) : (writesR r).take (k + 1) = (writesR r).take k ++ [writeR (rowAt r k) (.slice none 0 0)] := by
  unfold writesR
  rw [← List.map_take, ← List.map_take, range_take _ _ hk, range_take _ _ (by omega), List.range_succ, List.map_append]; rfl

section
variable {w w' : World} {v : Value} {base : Nat}
theorem SlotsAt.kept {L : List Sl} (h : SlotsAt w v L) (hk : ∀ b, v.ownBlock = some b → w'.heap[b]? = w.heap[b]?) : SlotsAt w' v L := by
  rcases h with h | ⟨b, o, c, rfl, h2, h3⟩
  · exact .inl h
  · have hb := hk b rfl
    have hc : ∀ j, w'.cell? ⟨b, j, none⟩ = w.cell? ⟨b, j, none⟩ := fun j => World.cell?_of_block hb
    exact .inr ⟨b, o, c, rfl, h2, fun i x hx => ⟨(hc _).trans (h3 i x hx).1, (hc _).trans (h3 i x hx).2⟩⟩
def scells (L : List Sl) : List Value := L.flatMap fun x => [.string x.k, .string x.v]
def OwnSl (w : World) (base : Nat) (v : Value) (L : List Sl) : Prop := w.ownsRow base 50 2 v L.length (scells L)
theorem scells_get : ∀ (L : List Sl) (i : Nat) (x : Sl), L[i]? = some x → (scells L)[i * 2]? = some (.string x.k) ∧ (scells L)[i * 2 + 1]? = some (.string x.v)
  | a :: l, 0, c, h => by simp at h; subst h; exact ⟨rfl, rfl⟩
  | a :: l, i + 1, c, h => by
    have ih := scells_get l i c (by simpa using h)
    have e : scells (a :: l) = [.string a.k, .string a.v] ++ scells l := rfl
    rw [e]
    refine ⟨?_, ?_⟩
    · rw [List.getElem?_append_right (by simp; omega)]
      rw [show (i + 1) * 2 - [Value.string a.k, Value.string a.v].length = i * 2 by simp; omega]
      exact ih.1
    · rw [List.getElem?_append_right (by simp; omega)]
      rw [show (i + 1) * 2 + 1 - [Value.string a.k, Value.string a.v].length = i * 2 + 1 by simp; omega]
      exact ih.2
theorem scells_app (L K : List Sl) : scells (L ++ K) = scells L ++ scells K := by unfold scells; rw [List.flatMap_append]
theorem OwnSl.at {L : List Sl} (h : OwnSl w base v L) : SlotsAt w v L := by
  rcases h.2 with ⟨rfl, h0⟩ | ⟨g, cap, cur, rfl, h1, h2, h3, h4, h5, h6⟩
  · exact .inl ⟨List.eq_nil_of_length_eq_zero h0, none, 0, rfl⟩
  · refine .inr ⟨g, 0, cap, rfl, h3, fun i x hx => ?_⟩
    have hi := (List.getElem?_eq_some_iff.1 hx).1
    have q := scells_get L i x hx
    have key : ∀ j u, (scells L)[j]? = some u → j < L.length * 2 → w.cell? ⟨g, j, none⟩ = some u := fun j u hu hj => by
      rw [← h6] at hu
      rw [List.getElem?_take, if_pos (by omega)] at hu
      exact (cell_of_row w g _ cur _ (0, 0) h2).trans (by simpa using hu)
    rw [Nat.zero_add]
    exact ⟨key _ _ q.1 (by omega), key _ _ q.2 (by omega)⟩
theorem OwnSl.below0 {L : List Sl} (h : OwnSl w base v L) (hb : Below w.heap.size w w') : OwnSl w' base v L := by
  refine ⟨h.1, ?_⟩
  rcases h.2 with q | ⟨g, cap, cur, rfl, h1, h2, h3⟩
  · exact .inl q
  · exact .inr ⟨g, cap, cur, rfl, h1, (hb.block g (Array.getElem?_eq_some_iff.1 h2).1).trans h2, h3⟩
theorem OwnSl.nil (w : World) (base : Nat) : OwnSl w base (.slice none 0 0) [] := World.ownsRow_nil _ _ _ _
theorem OwnSl.lt {L : List Sl} (h : OwnSl w base v L) : ∀ k, v.ownBlock = some k → base ≤ k ∧ k < w.heap.size := fun k hk => World.ownsRow.lt h k hk
theorem infoSlotJ : ∃ i, Try.prog.info? 50 = some i ∧ i.zero = some (.agg #[.string ⟨#[]⟩, .string ⟨#[]⟩]) ∧ i.size = 2 ∧ i.bytes = 32 := by
  have h : (Try.prog.info? 50).map (fun i => (i.zero, i.size, i.bytes)) = some (some (.agg #[.string ⟨#[]⟩, .string ⟨#[]⟩]), 2, 32) := by kernel_rfl
  cases hi : Try.prog.info? 50 with
  | none => rw [hi] at h; cases h
  | some i =>
    rw [hi] at h
    simp only [Option.map_some, Option.some.injEq, Prod.mk.injEq] at h
    exact ⟨i, rfl, h⟩
theorem infoWriteJ : ∃ i, Try.prog.info? 38 = some i ∧ i.zero = some (.agg #[.string ⟨#[]⟩, .bool false, .bool false, .int .u64 0, .string ⟨#[]⟩, .string ⟨#[]⟩, .slice none 0 0]) ∧ i.size = 7 ∧ i.bytes = 88 := by
  have h : (Try.prog.info? 38).map (fun i => (i.zero, i.size, i.bytes)) = some (some (.agg #[.string ⟨#[]⟩, .bool false, .bool false, .int .u64 0, .string ⟨#[]⟩, .string ⟨#[]⟩, .slice none 0 0]), 7, 88) := by kernel_rfl
  cases hi : Try.prog.info? 38 with
  | none => rw [hi] at h; cases h
  | some i =>
    rw [hi] at h
    simp only [Option.map_some, Option.some.injEq, Prod.mk.injEq] at h
    exact ⟨i, rfl, h⟩
theorem underSlots : Try.prog.underlying 36 = some (.slice 50) := by kernel_rfl
theorem underWrites : Try.prog.underlying 22 = some (.slice 38) := by kernel_rfl
end
end Go.Proofs.Ytadpopjhhanapaa
