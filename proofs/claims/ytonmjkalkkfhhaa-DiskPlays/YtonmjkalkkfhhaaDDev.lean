/-
  A device: what it is, and how it lies in memory.
-/
import Derived.Test.YtonmjkalkkfhhaaDMap
import Derived.Laws.AppendOwn
import Derived.Laws.OwnMore
namespace Go.Proofs.Ytonmjkalkkfhhaa
open Go Go.RowKit Go.Maps

/-- A page's two texts. -/
abbrev Pg := ByteArray × ByteArray
def mkP (x : Pg) : Value := .agg #[.string x.1, .string x.2]
def encP (x : Pg) : DataW Unit := .agg [.lit (.string x.1.data.toList), .lit (.string x.2.data.toList)]
def RP : Value → Option (DataW Unit × List MemPlace)
  | .agg cs => match cs.toList with
    | [.string a, .string b] => some (encP (a, b), [])
    | _ => none
  | _ => none
theorem elemP : Elem RP mkP encP where
  of x := rfl
  inv v y h := by
    unfold RP at h
    split at h
    · rename_i cs
      split at h
      · rename_i a b hc
        injection h with h
        refine ⟨(a, b), ?_, h.symm⟩
        unfold mkP
        rw [← hc]
      · cases h
    · cases h
  inj x y h := by
    unfold encP at h
    injection h with h
    injection h with h1 h2
    injection h2 with h2 _
    injection h1 with h1
    injection h1 with h1
    injection h2 with h2
    injection h2 with h2
    obtain ⟨⟨⟨a⟩⟩, ⟨⟨b⟩⟩⟩ := x
    obtain ⟨⟨⟨c⟩⟩, ⟨⟨d⟩⟩⟩ := y
    simp at h1 h2
    rw [h1, h2]
def mkU (_ : Unit) : Value := .agg #[]
def encU (_ : Unit) : DataW Unit := .agg []
theorem elemU : Elem unitElem mkU encU where
  of x := unitElem_mk
  inv v y h := by
    obtain ⟨h1, h2⟩ := unitElem_inv h
    exact ⟨(), h1, h2⟩
  inj x y _ := rfl
theorem zeroP (w : World) : (zeroValue 66).run Try.prog w = .ok (mkP (⟨#[]⟩, ⟨#[]⟩)) w := Try.zeroValue66 w
theorem zeroU (w : World) : (zeroValue 77).run Try.prog w = .ok (mkU ()) w := Try.zeroValue77 w

/-- A device. -/
structure Dev where
  size : Int
  pages : Int → Option Pg
  writes : List (Int × ByteArray)
  ops : Int
  off : Bool
  armed : Bool
  left : Int
  fails : Int → Option Unit
  count : Int

/-- What holds of each device, of so many operations at most. -/
structure Dev.ok (D : Dev) (N : Nat) : Prop where
  size : 0 ≤ D.size ∧ D.size ≤ 65536
  keys : ∀ u x, D.pages u = some x → 0 ≤ u ∧ u < 65536
  texts : ∀ u x, D.pages u = some x → x.1.size = 1024 ∧ (x.2.size = 0 ∨ x.2.size = 1024)
  writes : ∀ p ∈ D.writes, 0 ≤ p.1 ∧ p.1 < 65536 ∧ p.2.size = 1024
  many : D.writes.length ≤ N
  ops : 0 ≤ D.ops ∧ D.ops ≤ N
  left : 0 ≤ D.left ∧ D.left ≤ 9223372036854775807
  count : 0 ≤ D.count ∧ D.count ≤ N
theorem Dev.ok.mono {D : Dev} {N N' : Nat} (h : D.ok N) (hn : N ≤ N') : D.ok N' :=
  ⟨h.size, h.keys, h.texts, h.writes, Nat.le_trans h.many hn, by have := h.ops; omega, h.left, by have := h.count; omega⟩

/-- Where it lies: its block, the pages' map, the writes, the faults' map. -/
structure Hd where
  b : Nat
  po : Option Nat
  wv : Value
  fo : Option Nat

/-- The cells of writes. -/
def wcells (L : List (Int × ByteArray)) : List Value := L.flatMap fun p => [.int .i64 p.1, .string p.2]
theorem wcells_len (L : List (Int × ByteArray)) : (wcells L).length = L.length * 2 := by
  induction L with
  | nil => rfl
  | cons p L ih => simp only [wcells, List.flatMap_cons, List.length_append, List.length_cons, List.length_nil] at *; omega
theorem wcells_app (L : List (Int × ByteArray)) (p : Int × ByteArray) : wcells (L ++ [p]) = wcells L ++ [.int .i64 p.1, .string p.2] := by
  simp [wcells]
theorem wcells_get (L : List (Int × ByteArray)) (i : Nat) (p : Int × ByteArray) (h : L[i]? = some p) : (wcells L)[i * 2]? = some (.int .i64 p.1) ∧ (wcells L)[i * 2 + 1]? = some (.string p.2) := by
  induction L generalizing i with
  | nil => simp at h
  | cons q L ih =>
    cases i with
    | zero =>
      simp at h
      subst h
      exact ⟨rfl, rfl⟩
    | succ i =>
      have := ih i (by simpa using h)
      rw [show (i + 1) * 2 = i * 2 + 1 + 1 by omega]
      exact this

/-- Writes in a row, in memory: nothing stands behind them, or the row is the device's own. -/
def WRow (w : World) (v : Value) (L : List (Int × ByteArray)) : Prop :=
  (v = .slice none 0 0 ∧ L = []) ∨
  ∃ g cap cur, v = .slice (some ⟨g, 0, none⟩) L.length cap ∧ w.heap[g]? = some (.cells cur 73 (0, 0)) ∧ L.length ≤ cap ∧ cap ≤ maxLen ∧ (cur.size = cap * 2 ∨ cap = L.length) ∧ cur.toList.take (L.length * 2) = wcells L
theorem WRow.block {w w' : World} {v : Value} {L : List (Int × ByteArray)} (h : WRow w v L) (hb : ∀ k, v.ownBlock = some k → w'.heap[k]? = w.heap[k]?) : WRow w' v L := by
  rcases h with h | ⟨g, cap, cur, rfl, h1, h2⟩
  · exact .inl h
  · exact .inr ⟨g, cap, cur, rfl, (hb g rfl).trans h1, h2⟩
theorem WRow.lt {w : World} {v : Value} {L : List (Int × ByteArray)} (h : WRow w v L) : ∀ k, v.ownBlock = some k → k < w.heap.size := by
  rintro k hk
  rcases h with ⟨rfl, _⟩ | ⟨g, cap, cur, rfl, h1, _⟩
  · cases hk
  · simp [Value.ownBlock] at hk
    subst hk
    exact (Array.getElem?_eq_some_iff.1 h1).1
theorem WRow.obj {w : World} {v : Value} {L : List (Int × ByteArray)} (h : WRow w v L) : ∀ k, v.ownBlock = some k → ∃ cur, w.heap[k]? = some (.cells cur 73 (0, 0)) := by
  rintro k hk
  rcases h with ⟨rfl, _⟩ | ⟨g, cap, cur, rfl, h1, _⟩
  · cases hk
  · simp [Value.ownBlock] at hk
    subst hk
    exact ⟨cur, h1⟩
/-- The write of a place. -/
theorem WRow.at {w : World} {v : Value} {L : List (Int × ByteArray)} (h : WRow w v L) {i : Nat} {p : Int × ByteArray} (hp : L[i]? = some p) :
    ∃ g cap, v = .slice (some ⟨g, 0, none⟩) L.length cap ∧ L.length ≤ cap ∧ cap ≤ maxLen ∧ g < w.heap.size ∧ w.cell? ⟨g, i * 2, none⟩ = some (.int .i64 p.1) ∧ w.cell? ⟨g, i * 2 + 1, none⟩ = some (.string p.2) := by
  have hi := (List.getElem?_eq_some_iff.1 hp).1
  rcases h with ⟨_, rfl⟩ | ⟨g, cap, cur, rfl, h1, h2, h3, h4, h5⟩
  · simp at hp
  · have hc := wcells_get L i p hp
    rw [← h5] at hc
    rw [List.getElem?_take_of_lt (by omega), List.getElem?_take_of_lt (by omega)] at hc
    refine ⟨g, cap, rfl, h2, h3, (Array.getElem?_eq_some_iff.1 h1).1, ?_, ?_⟩
    · rw [cell_of_row w g _ cur _ (0, 0) h1, ← hc.1]; simp
    · rw [cell_of_row w g _ cur _ (0, 0) h1, ← hc.2]; simp

/-- The world but for some blocks, and for new ones. -/
structure Keep (S : Nat → Prop) (w w' : World) : Prop where
  os : w'.os = w.os
  tape : w'.tape = w.tape
  output : w'.output = w.output
  size : w.heap.size ≤ w'.heap.size
  block : ∀ k, k < w.heap.size → ¬ S k → w'.heap[k]? = w.heap[k]?
theorem Keep.refl (S : Nat → Prop) (w : World) : Keep S w w := ⟨rfl, rfl, rfl, Nat.le_refl _, fun _ _ _ => rfl⟩
theorem Keep.below {S : Nat → Prop} {w w' : World} (h : Below w.heap.size w w') : Keep S w w' := ⟨h.os, h.tape, h.output, h.size, fun k hk _ => h.block k hk⟩
theorem Keep.only {S : Nat → Prop} {b : Nat} {w w' : World} (h : Only b w w') (hb : S b) : Keep S w w' := ⟨h.os, h.tape, h.output, h.size, fun k hk hs => h.block k hk (fun e => hs (e ▸ hb))⟩
theorem Keep.drew (S : Nat → Prop) (w : World) : Keep S w w.drew := ⟨rfl, rfl, rfl, Nat.le_refl _, fun _ _ _ => rfl⟩
theorem Keep.mono {S T : Nat → Prop} {w w' : World} (h : Keep S w w') (hs : ∀ k, S k → T k) : Keep T w w' := ⟨h.os, h.tape, h.output, h.size, fun k hk ht => h.block k hk (fun q => ht (hs k q))⟩
theorem Keep.trans {S T : Nat → Prop} {w w1 w2 : World} (h : Keep S w w1) (k : Keep T w1 w2) (hT : ∀ i, T i → S i ∨ w.heap.size ≤ i) : Keep S w w2 :=
  ⟨k.os.trans h.os, k.tape.trans h.tape, k.output.trans h.output, Nat.le_trans h.size k.size, fun i hi hs => (k.block i (Nat.lt_of_lt_of_le hi h.size) (fun q => by
    rcases hT i q with h | h
    · exact hs h
    · omega)).trans (h.block i hi hs)⟩
theorem Keep.trans' {S : Nat → Prop} {w w1 w2 : World} (h : Keep S w w1) (k : Keep S w1 w2) : Keep S w w2 := h.trans k (fun _ => .inl)
/-- Where all these blocks are new ones, nothing has turned. -/
theorem Keep.fresh {S : Nat → Prop} {w w1 w2 : World} (h : Below w.heap.size w w1) (k : Keep S w1 w2) (hS : ∀ i, S i → w.heap.size ≤ i) : Below w.heap.size w w2 :=
  ⟨k.os.trans h.os, k.tape.trans h.tape, k.output.trans h.output, Nat.le_trans h.size k.size, fun i hi => (k.block i (Nat.lt_of_lt_of_le hi h.size) (fun q => by have := hS i q; omega)).trans (h.block i hi)⟩
theorem Keep.holds {S : Nat → Prop} {w w' : World} {c : Nat} {t : TypeId} {cs : Array Value} (h : Keep S w w') (hc : Holds w c t cs) (hS : ¬ S c) : Holds w' c t cs := by
  have := hc.lt
  unfold Holds at *
  rw [h.block c this hS]; exact hc

/-- The blocks that its calls may change. -/
def Foot (h : Hd) (k : Nat) : Prop := k = h.b ∨ h.po = some k ∨ ∃ n c, h.wv = .slice (some ⟨k, 0, none⟩) n c ∧ n < c
/-- All its blocks. -/
def Blk (h : Hd) (k : Nat) : Prop := k = h.b ∨ h.po = some k ∨ h.fo = some k ∨ h.wv.ownBlock = some k
theorem Foot.blk {h : Hd} {k : Nat} (f : Foot h k) : Blk h k := by
  rcases f with f | f | ⟨n, c, f, _⟩
  · exact .inl f
  · exact .inr (.inl f)
  · exact .inr (.inr (.inr (by rw [f]; rfl)))

def dcells (h : Hd) (D : Dev) : Array Value := #[.int .i64 D.size, .map h.po, h.wv, .int .i64 D.ops, .bool D.off, .bool D.armed, .int .i64 D.left, .map h.fo, .int .i64 D.count]

/-- A device in memory. -/
structure DiskAt (w : World) (h : Hd) (D : Dev) : Prop where
  ptr : Holds w h.b 60 (dcells h D)
  pages : MapV RP encP w 65536 h.po D.pages
  writes : WRow w h.wv D.writes
  fails : ∃ n, MapV unitElem encU w n h.fo D.fails
  apart : ∀ m, h.fo = some m → h.po ≠ some m

theorem DiskAt.lt {w : World} {h : Hd} {D : Dev} (a : DiskAt w h D) : ∀ k, Blk h k → k < w.heap.size := by
  rintro k (rfl | hk | hk | hk)
  · exact a.ptr.lt
  · exact a.pages.lt k hk
  · obtain ⟨n, hf⟩ := a.fails
    exact hf.lt k hk
  · exact a.writes.lt k hk
/-- Nothing of it has turned. -/
theorem DiskAt.kept {w w' : World} {h : Hd} {D : Dev} (a : DiskAt w h D) (hb : ∀ k, Blk h k → w'.heap[k]? = w.heap[k]?) : DiskAt w' h D := by
  refine ⟨?_, a.pages.block fun m hm => hb m (.inr (.inl hm)), a.writes.block fun k hk => hb k (.inr (.inr (.inr hk))), ?_, a.apart⟩
  · have := a.ptr
    unfold Holds at *
    rw [hb h.b (.inl rfl)]; exact this
  · obtain ⟨n, hf⟩ := a.fails
    exact ⟨n, hf.block fun m hm => hb m (.inr (.inr (.inl hm)))⟩
theorem DiskAt.below {w w' : World} {h : Hd} {D : Dev} (a : DiskAt w h D) (hb : Below w.heap.size w w') : DiskAt w' h D :=
  a.kept fun k hk => hb.block k (a.lt k hk)
theorem DiskAt.keep {S : Nat → Prop} {w w' : World} {h : Hd} {D : Dev} (a : DiskAt w h D) (hb : Keep S w w') (hS : ∀ k, Blk h k → ¬ S k) : DiskAt w' h D :=
  a.kept fun k hk => hb.block k (a.lt k hk) (hS k hk)
theorem DiskAt.drew {w : World} {h : Hd} {D : Dev} (a : DiskAt w h D) : DiskAt w.drew h D := a.kept fun _ _ => rfl
/-- Its block alone has turned. -/
theorem DiskAt.turn {w w' : World} {h : Hd} {D D' : Dev} (a : DiskAt w h D) (hO : Only h.b w w') (hp : Holds w' h.b 60 (dcells h D')) (h1 : D'.pages = D.pages) (h2 : D'.writes = D.writes) (h3 : D'.fails = D.fails) : DiskAt w' h D' := by
  have hm : ∀ m, (∃ es clock, w.heap[m]? = some (.map es clock)) → m ≠ h.b := by
    rintro m ⟨es, clock, hq⟩ rfl
    have := a.ptr
    unfold Holds at this
    rw [this] at hq
    cases hq
  refine ⟨hp, ?_, ?_, ?_, a.apart⟩
  · rw [h1]
    exact a.pages.block fun m e => hO.block m (a.pages.lt m e) (hm m (a.pages.obj m e))
  · rw [h2]
    refine a.writes.block fun k hk => hO.block k (a.writes.lt k hk) ?_
    rintro rfl
    obtain ⟨cur, hq⟩ := a.writes.obj _ hk
    have := a.ptr
    unfold Holds at this
    rw [this] at hq
    injection hq with hq
    injection hq with _ hq
    exact absurd hq (by decide)
  · rw [h3]
    obtain ⟨n, hf⟩ := a.fails
    exact ⟨n, hf.block fun m e => hO.block m (hf.lt m e) (hm m (hf.obj m e))⟩
/-- What is new of it is new. -/
def Newer (w : World) (h h' : Hd) : Prop := h'.b = h.b ∧ ∀ k, Foot h' k → Foot h k ∨ w.heap.size ≤ k
theorem Newer.refl (w : World) (h : Hd) : Newer w h h := ⟨rfl, fun _ => .inl⟩
theorem Newer.trans {w w1 : World} {h h1 h2 : Hd} (a : Newer w h h1) (hs : w.heap.size ≤ w1.heap.size) (b : Newer w1 h1 h2) : Newer w h h2 :=
  ⟨b.1.trans a.1, fun k hk => by
    rcases b.2 k hk with h | h
    · exact a.2 k h
    · exact .inr (by omega)⟩
/-- A call of a device is done. -/
structure Done (w : World) (h : Hd) (w' : World) (h' : Hd) (D' : Dev) : Prop where
  at_ : DiskAt w' h' D'
  newer : Newer w h h'
  keep : Keep (Foot h) w w'
theorem Done.refl {w : World} {h : Hd} {D : Dev} (a : DiskAt w h D) : Done w h w h D := ⟨a, Newer.refl _ _, Keep.refl _ _⟩
theorem Done.trans {w w1 w2 : World} {h h1 h2 : Hd} {D1 D2 : Dev} (a : Done w h w1 h1 D1) (b : Done w1 h1 w2 h2 D2) : Done w h w2 h2 D2 :=
  ⟨b.at_, a.newer.trans a.keep.size b.newer, a.keep.trans b.keep fun i hi => a.newer.2 i hi⟩
theorem Done.below {w w1 w2 : World} {h h1 : Hd} {D1 : Dev} (a : Done w h w1 h1 D1) (b : Below w1.heap.size w1 w2) : Done w h w2 h1 D1 :=
  ⟨a.at_.below b, a.newer, a.keep.trans (Keep.below (S := fun _ => False) b) (fun _ h => h.elim)⟩
theorem Done.ahead {w0 w w1 : World} {h h1 : Hd} {D1 : Dev} (b : Below w0.heap.size w0 w) (a : Done w h w1 h1 D1) : Done w0 h w1 h1 D1 :=
  ⟨a.at_, ⟨a.newer.1, fun k hk => by
    rcases a.newer.2 k hk with h | h
    · exact .inl h
    · exact .inr (by have := b.size; omega)⟩, (Keep.below b).trans a.keep fun _ => .inl⟩
theorem Done.drew {w w1 : World} {h h1 : Hd} {D1 : Dev} (a : Done w h w1 h1 D1) : Done w h w1.drew h1 D1 :=
  ⟨a.at_.drew, a.newer, a.keep.trans (Keep.drew (fun _ => False) w1) (fun _ h => h.elim)⟩
theorem Done.turn {w w' : World} {h : Hd} {D D' : Dev} (a : DiskAt w h D) (hO : Only h.b w w') (hp : Holds w' h.b 60 (dcells h D')) (h1 : D'.pages = D.pages) (h2 : D'.writes = D.writes) (h3 : D'.fails = D.fails) : Done w h w' h D' :=
  ⟨a.turn hO hp h1 h2 h3, Newer.refl _ _, Keep.only hO (.inl rfl)⟩
end Go.Proofs.Ytonmjkalkkfhhaa
