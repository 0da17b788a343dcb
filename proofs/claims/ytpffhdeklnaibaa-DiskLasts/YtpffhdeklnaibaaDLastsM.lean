/-
  What DiskLasts leans on: rows of bytes beside a device.
-/
import Derived.Test.YtpffhdeklnaibaaDLastsP
import Derived.Test.YtpffhdeklnaibaaDOwnG
import Derived.Laws.AppendOwn
namespace Go.Proofs.Ytpffhdeklnaibaa
open Go Go.RowKit Go.Maps

/-- An append that also tells where the row lies then. -/
theorem append_where {P : Program} {w w' : World} {base : Nat} {t ty e : TypeId} {i : TypeInfo} {z v v' : Value} (ht : P.underlying t = some (.slice e)) (hi : P.info? e = some i) (hz : i.zero = some z)
    {n : Nat} {xs : List Value} (hown : w.ownsRow base e i.size v n xs) {a : Addr} {m c : Nat} {news : List Value} (hl : news.length = m * i.size)
    (hnews : ∀ j u, news[j]? = some u → w.cell? (a.add j) = some u) (h1 : ∀ u ∈ news, u.oneCell' = true) (hm : 0 < m) (h63 : n + m ≤ maxLen) (hbytes : (n + m) * i.bytes ≤ 140737488355328)
    (hr : (Builtin.append_ #[t, t] ty #[v, .slice (some a) m c]).run P w = .ok v' w') : v'.ownBlock = v.ownBlock ∨ v'.ownBlock = some w.heap.size := by
  have hsmall : n + m ≤ 9223372036854775807 := by simp only [maxLen] at h63; omega
  rcases hown.2 with ⟨rfl, rfl⟩ | ⟨g, cap, cur, rfl, hbg, hg, hnc, hcm, hcs, htake⟩
  · have h2 := run_append_nil (P := P) w t ty e i z ht hi hz a m c news hl hnews (by omega) (by omega) (by have hb := hbytes; simp only [Nat.zero_add] at hb; omega)
    rw [hr] at h2
    injection h2 with h3 h4
    right; rw [h3]; rfl
  · by_cases hroom : n + m ≤ cap
    · have hfit : n * i.size + news.length ≤ cur.size := by rw [hl, hcs, ← Nat.add_mul]; exact Nat.mul_le_mul_right _ hroom
      have h2 := run_append_room (P := P) w t ty e i ht hi g n cap cur hg a m c news hl hnews h1 hroom hfit
      rw [hr] at h2
      injection h2 with h3 h4
      left; rw [h3]; rfl
    · have h2 := run_append_grow (P := P) w t ty e i z ht hi hz ⟨g, 0, none⟩ n cap xs hown.1 (hown.cells (g := g) rfl) a m c news hl hnews (by omega) (by omega) (growslice_fits (by omega) hbytes)
      rw [hr] at h2
      injection h2 with h3 h4
      right; rw [h3]; rfl

def u8v (b : UInt8) : Value := .int .u8 (b.toNat : Nat)
/-- Rows of bytes, of an array of 32, the first c of them. -/
structure MayV (w : World) (base g : Nat) (V : Array Value) (R : Nat → Nat) (mm : Nat → List UInt8) (c : Nat) : Prop where
  cells : Holds w g 50 V
  size : V.size = 32
  row : ∀ i, i < c → ∃ v, V[i]? = some v ∧ v.ownBlock = some (R i) ∧ w.ownsRow base 5 1 v (mm i).length ((mm i).map u8v)
  inj : ∀ i j, i < c → j < c → R i = R j → i = j
  ne : ∀ i, i < c → R i ≠ g
  new : base ≤ g
/-- Its blocks. -/
def MayG (g : Nat) (R : Nat → Nat) (c : Nat) (k : Nat) : Prop := k = g ∨ ∃ i, i < c ∧ R i = k
theorem owns_block {w w' : World} {base : Nat} {v : Value} {n r : Nat} {xs : List Value} (h : w.ownsRow base 5 1 v n xs) (hv : v.ownBlock = some r) (hb : w'.heap[r]? = w.heap[r]?) : w'.ownsRow base 5 1 v n xs := by
  refine ⟨h.1, ?_⟩
  rcases h.2 with q | ⟨g, cap, cur, rfl, h1, h2, h3⟩
  · exact .inl q
  · have : g = r := by simpa [Value.ownBlock] using hv
    subst this
    exact .inr ⟨g, cap, cur, rfl, h1, hb.trans h2, h3⟩
section
variable {w w' : World} {base g : Nat} {V : Array Value} {R : Nat → Nat} {mm : Nat → List UInt8} {c : Nat}
theorem MayV.same (h : MayV w base g V R mm c) (hs : Same (MayG g R c) w w') : MayV w' base g V R mm c := by
  refine ⟨?_, h.size, fun i hi => ?_, h.inj, h.ne, h.new⟩
  · have := h.cells
    unfold Holds at *
    rw [hs g (.inl rfl)]
    exact this
  · obtain ⟨v, h1, h2, h3⟩ := h.row i hi
    exact ⟨v, h1, h2, owns_block h3 h2 (hs _ (.inr ⟨i, hi, rfl⟩))⟩
/-- What stands in one of its blocks. -/
theorem MayV.obj (h : MayV w base g V R mm c) {k : Nat} (hk : MayG g R c k) : base ≤ k ∧ ∃ cur t, w.heap[k]? = some (.cells cur t (0, 0)) ∧ t ≠ 60 ∧ t ≠ 73 := by
  rcases hk with rfl | ⟨i, hi, rfl⟩
  · exact ⟨h.new, _, _, h.cells, by decide, by decide⟩
  · obtain ⟨v, h1, h2, h3⟩ := h.row i hi
    rcases h3.2 with ⟨rfl, _⟩ | ⟨r, cap, cur, rfl, q1, q2, _⟩
    · cases h2
    · have : r = R i := by simpa [Value.ownBlock] using h2
      subst this
      exact ⟨q1, _, _, q2, by decide, by decide⟩
theorem MayV.lt (h : MayV w base g V R mm c) {k : Nat} (hk : MayG g R c k) : k < w.heap.size := by
  obtain ⟨_, cur, t, q, _⟩ := h.obj hk
  exact (Array.getElem?_eq_some_iff.1 q).1
/-- One row anew. -/
theorem MayV.put (h : MayV w base g V R mm c) {i r c' : Nat} {v : Value} {l : List UInt8} (hi : i < 32) (hc : ∀ j, j < c' → j ≠ i → j < c)
    (hV : Holds w' g 50 (V.setIfInBounds i v)) (hv : v.ownBlock = some r) (ho : w'.ownsRow base 5 1 v l.length (l.map u8v)) (hr : r ≠ g) (hR : ∀ j, j < c → j ≠ i → R j ≠ r)
    (hk : ∀ j, j < c → j ≠ i → w'.heap[R j]? = w.heap[R j]?) : MayV w' base g (V.setIfInBounds i v) (fun j => if j = i then r else R j) (upd mm i l) c' := by
  refine ⟨hV, by simp [h.size], fun j hj => ?_, fun a b ha hb e => ?_, fun j hj => ?_, h.new⟩
  · by_cases q : j = i
    · subst q
      refine ⟨v, by rw [Array.getElem?_setIfInBounds_self_of_lt (by rw [h.size]; exact hi)], by rw [if_pos rfl]; exact hv, by rw [upd_same]; exact ho⟩
    · have hjc := hc j hj q
      obtain ⟨u, h1, h2, h3⟩ := h.row j hjc
      refine ⟨u, by rw [Array.getElem?_setIfInBounds_ne (fun e => q e.symm)]; exact h1, by rw [if_neg q]; exact h2, by rw [upd_other _ _ q]; exact owns_block h3 h2 (hk j hjc q)⟩
  · by_cases qa : a = i
    · by_cases qb : b = i
      · rw [qa, qb]
      · rw [if_pos qa, if_neg qb] at e
        exact absurd e.symm (hR b (hc b hb qb) qb)
    · by_cases qb : b = i
      · rw [if_neg qa, if_pos qb] at e
        exact absurd e (hR a (hc a ha qa) qa)
      · rw [if_neg qa, if_neg qb] at e
        exact h.inj a b (hc a ha qa) (hc b hb qb) e
  · by_cases q : j = i
    · rw [if_pos q]; exact hr
    · rw [if_neg q]; exact h.ne j (hc j hj q)
end
/-- A device and the rows beside it. -/
structure Las (w0 w : World) (b g : Nat) (D : Dev) (V : Array Value) (R : Nat → Nat) (mm : Nat → List UInt8) (c : Nat) : Prop where
  own : OwnG (MayG g R c) w0 w b D
  may : MayV w w0.heap.size g V R mm c
theorem blk_not {W : World} {h : Hd} {E : Dev} (a : DiskAt W h E) {k : Nat} {cur : Array Value} {t : TypeId} (hk : W.heap[k]? = some (.cells cur t (0, 0))) (h1 : t ≠ 60) (h2 : t ≠ 73) : ¬ Blk h k := by
  rintro (q | q | q | q)
  · have := a.ptr
    unfold Holds at this
    rw [← q, hk] at this
    injection this with this
    injection this with _ this
    exact h1 this
  · obtain ⟨es, clock, hq⟩ := a.pages.obj k q
    rw [hk] at hq; cases hq
  · obtain ⟨n, hf⟩ := a.fails
    obtain ⟨es, clock, hq⟩ := hf.obj k q
    rw [hk] at hq; cases hq
  · obtain ⟨cu, hq⟩ := a.writes.obj k q
    rw [hk] at hq
    injection hq with hq
    injection hq with _ hq
    exact h2 hq
/-- What turns and is none of the device's leaves it. -/
theorem OwnG.turn {G G' S : Nat → Prop} {w0 w w' : World} {b : Nat} {D : Dev} (o : OwnG G w0 w b D) (hK : Keep S w w') (hS : ∀ k, S k → w0.heap.size ≤ k ∧ ∃ cur t, w.heap[k]? = some (.cells cur t (0, 0)) ∧ t ≠ 60 ∧ t ≠ 73)
    (hG : ∀ k, G' k → G k ∨ w.heap.size ≤ k) (hlt : ∀ k, G' k → k < w'.heap.size) : OwnG G' w0 w' b D := by
  obtain ⟨h, h1, h2, h3, h4, h5⟩ := o
  refine ⟨h, h1, h2.keep hK fun k hk hs => ?_, fun k hk => ⟨(h3 k hk).1, fun q => ?_⟩, Keep.fresh h4 hK fun k hk => (hS k hk).1, hlt⟩
  · obtain ⟨_, cur, t, q1, q2, q3⟩ := hS k hs
    exact blk_not h2 q1 q2 q3 hk
  · rcases hG k q with r | r
    · exact (h3 k hk).2 r
    · have := h2.lt k hk.blk
      omega
section
variable {w0 w w' : World} {b g : Nat} {D : Dev} {V : Array Value} {R : Nat → Nat} {mm : Nat → List UInt8} {c : Nat}
theorem Las.same {D' : Dev} (h : Las w0 w b g D V R mm c) (o : OwnG (MayG g R c) w0 w' b D') (hs : Same (MayG g R c) w w') : Las w0 w' b g D' V R mm c := ⟨o, h.may.same hs⟩
theorem Las.below (h : Las w0 w b g D V R mm c) (hB : Below w.heap.size w w') : Las w0 w' b g D V R mm c := h.same (h.own.below hB).1 (h.own.below hB).2
theorem Las.drew (h : Las w0 w b g D V R mm c) : Las w0 w.drew b g D V R mm c := h.below (by exact ⟨rfl, rfl, rfl, Nat.le_refl _, fun _ _ => rfl⟩)
/-- One row anew, of one byte. -/
theorem Las.fresh (h : Las w0 w b g D V R mm c) {i c' : Nat} (hi : i < 32) (hc : ∀ j, j < c' → j ≠ i → j < c) (x : UInt8) :
    Las w0 ((w.alloc (.cells #[u8v x] 5)).setCell ⟨g, i, none⟩ (.slice (some ⟨w.heap.size, 0, none⟩) 1 1)) b g D (V.setIfInBounds i (.slice (some ⟨w.heap.size, 0, none⟩) 1 1)) (fun j => if j = i then w.heap.size else R j) (upd mm i [x]) c' := by
  have hg : g < w.heap.size := h.may.lt (.inl rfl)
  have hB := below_new1 w (.cells #[u8v x] 5)
  have hgn : ∀ k, k ≠ g → ((w.alloc (.cells #[u8v x] 5)).setCell ⟨g, i, none⟩ (.slice (some ⟨w.heap.size, 0, none⟩) 1 1)).heap[k]? = (w.alloc (.cells #[u8v x] 5)).heap[k]? := fun k hk => Below.heap_setCell _ _ _ _ hk
  have hn := Holds.new w 5 #[u8v x]
  have hK : Keep (fun k => k = g) w ((w.alloc (.cells #[u8v x] 5)).setCell ⟨g, i, none⟩ (.slice (some ⟨w.heap.size, 0, none⟩) 1 1)) :=
    (Keep.below hB).trans (Keep.only (S := fun k => k = g) ((Only.refl g _).set i _) rfl) (fun _ q => .inl q)
  have hlt : ∀ k, MayG g R c k → k < w.heap.size := fun k hk => h.may.lt hk
  have hR : ∀ j, j < c → R j < w.heap.size := fun j hj => hlt _ (.inr ⟨j, hj, rfl⟩)
  have hm : MayV ((w.alloc (.cells #[u8v x] 5)).setCell ⟨g, i, none⟩ (.slice (some ⟨w.heap.size, 0, none⟩) 1 1)) w0.heap.size g (V.setIfInBounds i (.slice (some ⟨w.heap.size, 0, none⟩) 1 1)) (fun j => if j = i then w.heap.size else R j) (upd mm i [x]) c' := by
    refine h.may.put (v := .slice (some ⟨w.heap.size, 0, none⟩) 1 1) (l := [x]) hi hc ((h.may.cells.alloc _).set i _) rfl ⟨rfl, .inr ⟨w.heap.size, 1, #[u8v x], rfl, by have := h.may.new; omega, (hgn _ (by omega)).trans hn, Nat.le_refl _, by simp [maxLen], rfl, rfl⟩⟩ (by omega) (fun j hj _ => by have := hR j hj; omega) (fun j hj _ => (hgn _ (h.may.ne j hj)).trans (hB.block _ (hR j hj)))
  refine ⟨h.own.turn hK (fun k hk => h.may.obj (.inl hk)) (fun k hk => ?_) (fun k hk => hm.lt hk), hm⟩
  rcases hk with q | ⟨j, hj, q⟩
  · exact .inl (.inl q)
  · dsimp only at q
    by_cases e : j = i
    · rw [if_pos e] at q
      exact .inr (by omega)
    · rw [if_neg e] at q
      exact .inl (.inr ⟨j, hc j hj e, q⟩)
/-- One row with a byte more: what the append has made of the row of a place. -/
theorem Las.more {w1 w2 : World} (h : Las w0 w1 b g D V R mm c) {i : Nat} (hi : i < c) (hc : c ≤ 32) {v v' : Value} (hv : V[i]? = some v) (x : UInt8)
    (ho : w2.ownsRow w0.heap.size 5 1 v' ((mm i).length + 1) ((mm i).map u8v ++ [u8v x])) (hg : w1.grownBy w2 v.ownBlock) (hw : v'.ownBlock = v.ownBlock ∨ v'.ownBlock = some w1.heap.size) :
    ∃ R', Las w0 (w2.setCell ⟨g, i, none⟩ v') b g D (V.setIfInBounds i v') R' (upd mm i (mm i ++ [x])) c := by
  obtain ⟨u, hu, hub, huo⟩ := h.may.row i hi
  rw [hv] at hu
  injection hu with hu
  subst hu
  have hlt : ∀ k, MayG g R c k → k < w1.heap.size := fun k hk => h.may.lt hk
  have hR : ∀ j, j < c → R j < w1.heap.size := fun j hj => hlt _ (.inr ⟨j, hj, rfl⟩)
  have hglt : g < w1.heap.size := hlt g (.inl rfl)
  obtain ⟨r, hr, hrc⟩ : ∃ r, v'.ownBlock = some r ∧ (r = R i ∨ r = w1.heap.size) := by
    rcases hw with q | q
    · exact ⟨R i, q.trans hub, .inl rfl⟩
    · exact ⟨_, q, .inr rfl⟩
  have hrg : r ≠ g := by
    rcases hrc with q | q
    · rw [q]; exact h.may.ne i hi
    · omega
  have hrR : ∀ j, j < c → j ≠ i → R j ≠ r := fun j hj hji e => by
    rcases hrc with q | q
    · exact hji (h.may.inj j i hj hi (e.trans q))
    · have := hR j hj; omega
  have hgn : ∀ k, k ≠ g → (w2.setCell ⟨g, i, none⟩ v').heap[k]? = w2.heap[k]? := fun k hk => Below.heap_setCell _ _ _ _ hk
  have hkp : ∀ k, k < w1.heap.size → k ≠ R i → w2.heap[k]? = w1.heap[k]? := fun k hk hne => hg.block k hk (fun e => hne (by rw [hub] at e; injection e))
  have hVg : Holds w2 g 50 V := by
    have := h.may.cells
    unfold Holds at *
    rw [hkp g hglt (fun e => h.may.ne i hi e.symm)]
    exact this
  have hK : Keep (fun k => k = g ∨ k = R i) w1 (w2.setCell ⟨g, i, none⟩ v') :=
    Keep.trans (w1 := w2) ⟨hg.os, hg.tape, hg.output, hg.size, fun k hk hs => hkp k hk (fun e => hs (.inr e))⟩ (Keep.only (S := fun k => k = g ∨ k = R i) ((Only.refl g _).set i _) (.inl rfl)) (fun _ q => .inl q)
  have hm : MayV (w2.setCell ⟨g, i, none⟩ v') w0.heap.size g (V.setIfInBounds i v') (fun j => if j = i then r else R j) (upd mm i (mm i ++ [x])) c := by
    refine h.may.put (v := v') (l := mm i ++ [x]) (by omega) (fun j hj _ => hj) (hVg.set i _) hr (owns_block (w := w2) (by simpa using ho) hr (hgn r hrg)) hrg hrR (fun j hj hji => (hgn _ (h.may.ne j hj)).trans (hkp _ (hR j hj) (fun e => hji (h.may.inj j i hj hi e))))
  refine ⟨_, h.own.turn hK (fun k hk => h.may.obj ?_) (fun k hk => ?_) (fun k hk => hm.lt hk), hm⟩
  · rcases hk with q | q
    · exact .inl q
    · exact .inr ⟨i, hi, q.symm⟩
  · rcases hk with q | ⟨j, hj, q⟩
    · exact .inl (.inl q)
    · dsimp only at q
      by_cases e : j = i
      · rw [if_pos e] at q
        rcases hrc with t | t
        · exact .inl (.inr ⟨i, hi, t.symm.trans q⟩)
        · exact .inr (by omega)
      · rw [if_neg e] at q
        exact .inl (.inr ⟨j, hj, q⟩)
end
end Go.Proofs.Ytpffhdeklnaibaa
