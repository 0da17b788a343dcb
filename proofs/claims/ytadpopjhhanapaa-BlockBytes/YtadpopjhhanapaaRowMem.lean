/-
  Rows of things in memory, and as lists of bytes.
-/
import Derived.Test.YtadpopjhhanapaaSplitW
import Derived.Laws.AppendOwn
import Derived.Laws.OwnMore
namespace Go.Proofs.Ytadpopjhhanapaa
open Go Go.RowKit

/-- Things in a row; each: whether it is a list, its bytes, what is in it. -/
inductive Row where
  | nil
  | item (b : Bool) (s : List UInt8) (inner rest : Row)
def Row.len : Row → Nat
  | .nil => 0
  | .item _ _ _ r => r.len + 1
def Row.app : Row → Row → Row
  | .nil, q => q
  | .item b s i r, q => .item b s i (r.app q)
theorem Row.len_app (r q : Row) : (r.app q).len = r.len + q.len := by
  induction r with
  | nil => simp [Row.app, Row.len]
  | item b s i r _ ih => simp only [Row.app, Row.len, ih]; omega
theorem Row.app_nil (r : Row) : r.app .nil = r := by
  induction r with
  | nil => rfl
  | item b s i r _ ih => simp only [Row.app, ih]
theorem Row.app_app (r q p : Row) : (r.app q).app p = r.app (q.app p) := by
  induction r with
  | nil => rfl
  | item b s i r _ ih => simp only [Row.app, ih]
theorem Row.len_zero {r : Row} (h : r.len = 0) : r = .nil := by cases r with
  | nil => rfl
  | item b s i r => simp [Row.len] at h

/-- A row lies in memory from an address on, in blocks of S alone. -/
def Lies (w : World) (S : Nat → Prop) : Row → Option Addr → Prop
  | .nil, _ => True
  | .item b s inner rest, a => ∃ bk o a' c', a = some ⟨bk, o, none⟩ ∧ S bk ∧ w.cell? ⟨bk, o, none⟩ = some (.bool b) ∧ w.cell? ⟨bk, o + 1, none⟩ = some (.string ⟨s.toArray⟩) ∧
      w.cell? ⟨bk, o + 2, none⟩ = some (.slice a' inner.len c') ∧ s.length < 4611686018427387904 ∧ inner.len < 4611686018427387904 ∧ Lies w S inner a' ∧ Lies w S rest (some ⟨bk, o + 3, none⟩)
theorem Lies.mono {w : World} {S S' : Nat → Prop} (hS : ∀ k, S k → S' k) : ∀ {r : Row} {a : Option Addr}, Lies w S r a → Lies w S' r a
  | .nil, _, _ => trivial
  | .item b s inner rest, a, h => by
    obtain ⟨bk, o, a', c', h1, h2, h3, h4, h5, h6, h7, h8, h9⟩ := h
    exact ⟨bk, o, a', c', h1, hS _ h2, h3, h4, h5, h6, h7, h8.mono hS, h9.mono hS⟩
theorem Lies.kept {w w' : World} {S : Nat → Prop} (hS : ∀ k, S k → w'.heap[k]? = w.heap[k]?) : ∀ {r : Row} {a : Option Addr}, Lies w S r a → Lies w' S r a
  | .nil, _, _ => trivial
  | .item b s inner rest, a, h => by
    obtain ⟨bk, o, a', c', h1, h2, h3, h4, h5, h6, h7, h8, h9⟩ := h
    have hc : ∀ j, w'.cell? ⟨bk, j, none⟩ = w.cell? ⟨bk, j, none⟩ := fun j => World.cell?_of_block (hS bk h2)
    exact ⟨bk, o, a', c', h1, h2, (hc _).trans h3, (hc _).trans h4, (hc _).trans h5, h6, h7, h8.kept hS, h9.kept hS⟩

/-- The cells of a row. -/
def RCells (w : World) (S : Nat → Prop) : Row → List Value → Prop
  | .nil, cs => cs = []
  | .item b s inner rest, cs => ∃ a' c' cs', cs = .bool b :: .string ⟨s.toArray⟩ :: .slice a' inner.len c' :: cs' ∧ s.length < 4611686018427387904 ∧ inner.len < 4611686018427387904 ∧ Lies w S inner a' ∧ RCells w S rest cs'
theorem RCells.mono {w : World} {S S' : Nat → Prop} (hS : ∀ k, S k → S' k) : ∀ {r : Row} {cs : List Value}, RCells w S r cs → RCells w S' r cs
  | .nil, _, h => h
  | .item b s inner rest, cs, h => by
    obtain ⟨a', c', cs', h1, h2, h3, h4, h5⟩ := h
    exact ⟨a', c', cs', h1, h2, h3, h4.mono hS, h5.mono hS⟩
theorem RCells.kept {w w' : World} {S : Nat → Prop} (hS : ∀ k, S k → w'.heap[k]? = w.heap[k]?) : ∀ {r : Row} {cs : List Value}, RCells w S r cs → RCells w' S r cs
  | .nil, _, h => h
  | .item b s inner rest, cs, h => by
    obtain ⟨a', c', cs', h1, h2, h3, h4, h5⟩ := h
    exact ⟨a', c', cs', h1, h2, h3, h4.kept hS, h5.kept hS⟩
theorem RCells.snoc {w : World} {S : Nat → Prop} {b : Bool} {s : List UInt8} {inner : Row} {a' : Option Addr} {c' : Nat} (hs : s.length < 4611686018427387904) (hi : inner.len < 4611686018427387904) (hl : Lies w S inner a') :
    ∀ {r : Row} {cs : List Value}, RCells w S r cs → RCells w S (r.app (.item b s inner .nil)) (cs ++ [.bool b, .string ⟨s.toArray⟩, .slice a' inner.len c'])
  | .nil, cs, h => by
    have : cs = [] := h
    subst this
    exact ⟨a', c', [], rfl, hs, hi, hl, rfl⟩
  | .item b2 s2 inner2 rest, cs, h => by
    obtain ⟨a2, c2, cs', h1, h2, h3, h4, h5⟩ := h
    subst h1
    exact ⟨a2, c2, cs' ++ [.bool b, .string ⟨s.toArray⟩, .slice a' inner.len c'], rfl, h2, h3, h4, RCells.snoc hs hi hl h5⟩
theorem RCells.len {w : World} {S : Nat → Prop} : ∀ {r : Row} {cs : List Value}, RCells w S r cs → cs.length = r.len * 3
  | .nil, cs, h => by have : cs = [] := h; subst this; rfl
  | .item b s inner rest, cs, h => by
    obtain ⟨a', c', cs', h1, _, _, _, h5⟩ := h
    subst h1
    have := h5.len
    simp only [List.length_cons, Row.len, this]; omega
theorem lies_at {w : World} {S : Nat → Prop} {g : Nat} (hg : S g) : ∀ {r : Row} {cs : List Value} {o : Nat}, RCells w S r cs → (∀ j, j < cs.length → w.cell? ⟨g, o + j, none⟩ = cs[j]?) → Lies w S r (some ⟨g, o, none⟩)
  | .nil, _, _, _, _ => trivial
  | .item b s inner rest, cs, o, h, hc => by
    obtain ⟨a', c', cs', h1, h2, h3, h4, h5⟩ := h
    subst h1
    refine ⟨g, o, a', c', rfl, hg, ?_, ?_, ?_, h2, h3, h4, lies_at hg h5 fun j hj => ?_⟩
    · exact hc 0 (by simp)
    · exact hc 1 (by simp)
    · exact hc 2 (by simp)
    · have := hc (j + 3) (by simp; omega)
      rw [show o + 3 + j = o + (j + 3) by omega, this]; simp
/-- A row that the call has made is read as that row. -/
theorem lies_own {w : World} {S S' : Nat → Prop} {base n : Nat} {v : Value} {r : Row} {xs : List Value} (own : w.ownsRow base 54 3 v n xs) (hr : RCells w S r xs) (hn : n = r.len)
    (hS : ∀ k, S k → S' k) (hg : ∀ k, v.ownBlock = some k → S' k) : ∃ a c, v = .slice a r.len c ∧ Lies w S' r a := by
  rcases own.2 with ⟨rfl, h0⟩ | ⟨g, cap, cur, rfl, hg1, hb, hc, _, _, ht⟩
  · have : r = .nil := Row.len_zero (by omega)
    subst this
    exact ⟨none, 0, rfl, trivial⟩
  · refine ⟨some ⟨g, 0, none⟩, cap, by rw [hn], lies_at (hg g rfl) (hr.mono hS) fun j hj => ?_⟩
    have h1 := hr.len
    rw [Nat.zero_add]
    exact own.cellAt j (by rw [hn, ← h1]; exact hj)

/-- An append that also tells where the row lies then. -/
theorem append_where {P : Program} {w w' : World} {base : Nat} {t ty e : TypeId} {i : TypeInfo} {z v v' : Value} (ht : P.underlying t = some (.slice e)) (hi : P.info? e = some i) (hz : i.zero = some z)
    {n : Nat} {xs : List Value} (hown : w.ownsRow base e i.size v n xs) {a : Addr} {m c : Nat} {news : List Value} (hl : news.length = m * i.size)
    (hnews : ∀ j u, news[j]? = some u → w.cell? (a.add j) = some u) (h1 : ∀ u ∈ news, u.oneCell' = true) (hm : 0 < m) (h63 : n + m ≤ maxLen) (hbytes : (n + m) * i.bytes ≤ 140737488355328)
    (hr : (Builtin.append_ #[t, t] ty #[v, .slice (some a) m c]).run P w = .ok v' w') : v'.ownBlock = v.ownBlock ∨ v'.ownBlock = some w.heap.size := by
  have hsmall : n + m ≤ 9223372036854775807 := by simp only [maxLen] at h63; omega
  rcases hown.2 with ⟨rfl, rfl⟩ | ⟨g, cap, cur, rfl, hbg, hg, hnc, hcm, hcs, htake⟩
  · have h2 := run_append_nil (P := P) w t ty e i z ht hi hz a m c news hl hnews (by omega) (by omega) (by have hb := hbytes; simp only [Nat.zero_add] at hb; omega)
    rw [hr] at h2
    injection h2 with h3 h4
    right; rw [h3]; rfl
  · by_cases hroom : n + m ≤ cap
    · have hfit : n * i.size + news.length ≤ cur.size := by rw [hl, hcs, ← Nat.add_mul]; exact Nat.mul_le_mul_right _ hroom
      have h2 := run_append_room (P := P) w t ty e i ht hi g n cap cur hg a m c news hl hnews h1 hroom hfit
      rw [hr] at h2
      injection h2 with h3 h4
      left; rw [h3]; rfl
    · have h2 := run_append_grow (P := P) w t ty e i z ht hi hz ⟨g, 0, none⟩ n cap xs hown.1 (hown.cells (g := g) rfl) a m c news hl hnews (by omega) (by omega) (growslice_fits (by omega) hbytes)
      rw [hr] at h2
      injection h2 with h3 h4
      right; rw [h3]; rfl
theorem wpList_append_own2 {P : Program} (w : World) {ops : Array Oper} {rest : List Oper} {o : Oper} {a : Act} {Q : Exit → Act → World → Prop} (hgd : o.guard = none) (s x : Operand) (t : TypeId)
    (ho : o.op = .call { callee := .builtin .append, args := #[s, x], argTypes := #[t, t] })
    (base : Nat) (e : TypeId) (i : TypeInfo) (z : Value) (size bytes : Nat) (ht : P.underlying t = some (.slice e)) (hi : P.info? e = some i) (hz : i.zero = some z)
    (hsize : i.size = size) (hby : i.bytes = bytes) (hzs : z.cells.size = size) (hsz : 0 < size)
    (v : Value) (n : Nat) (xs : List Value) (hs : a.eval s = v) (hown : w.ownsRow base e size v n xs)
    (ad : Addr) (m c : Nat) (news : List Value) (hx : a.eval x = .slice (some ad) m c) (hl : news.length = m * size) (hnews : ∀ j u, news[j]? = some u → w.cell? (ad.add j) = some u) (h1 : ∀ u ∈ news, u.oneCell' = true)
    (hm : 0 < m) (h63 : n + m ≤ maxLen) (hbytes : (n + m) * bytes ≤ 140737488355328) (hbase : base ≤ w.heap.size)
    (h : ∀ v' w', w'.ownsRow base e size v' (n + m) (xs ++ news) → w.grownBy w' v.ownBlock → (v'.ownBlock = v.ownBlock ∨ v'.ownBlock = some w.heap.size) → wpList P ops Q rest (a.put o.dst v') w') : wpList P ops Q (o :: rest) a w :=
  wpList_plain hgd fun _ hK => by
    obtain ⟨v', w', hr, h2, h3, _⟩ := run_append_own (P := P) w base t o.type e i z size bytes ht hi hz hsize hby hzs hsz v n xs hown ad m c news hl hnews h1 h63 hbytes hbase
    unfold Oper.wp execOp
    simp only [ho, resolve, invoke, builtin, Sem.run_bind, Sem.run_pure, Result.andThen_ok, List.map_toArray, List.map_cons, List.map_nil, hs, hx, hr]
    subst hsize
    subst hby
    exact hK _ _ (h v' w' h2 h3 (append_where ht hi hz hown hl hnews h1 hm h63 hbytes hr))

/-- The things that bytes are, so deep at most. -/
def thingsF : Nat → Nat → List UInt8 → Option Row
  | 0, _, s => if s = [] then some .nil else none
  | n + 1, most, s => if s = [] then some .nil else match split s with
    | none => none
    | some (p, l, r) => if most = 0 then none else
      match l with
      | false => (thingsF n most r).map (Row.item false p .nil)
      | true => match thingsF n (most - 1) p with
        | none => none
        | some q => (thingsF n most r).map (Row.item true [] q)
def things (most : Nat) (s : List UInt8) : Option Row := thingsF s.length most s

theorem split_len {s p r : List UInt8} {l : Bool} (h : split s = some (p, l, r)) : p.length + r.length ≤ s.length ∧ r.length < s.length ∧ (l = true → p.length < s.length) := by
  unfold split at h
  split at h
  · cases h
  · next h1 =>
    split at h
    · cases h
    · next h2 =>
      simp only [Option.some.injEq, Prod.mk.injEq] at h
      obtain ⟨rfl, hl, rfl⟩ := h
      have hok : (rd s).2.2 = true := by
        cases q : (rd s).2.2 with
        | true => rfl
        | false => exact absurd (.inl q) h1
      have hb : (rd s).1 + (rd s).2.1 ≤ s.length := by
        rcases Nat.lt_or_ge s.length ((rd s).1 + (rd s).2.1) with q | q
        · exact absurd (.inr q) h1
        · exact q
      have hpos : 1 ≤ (rd s).1 + (rd s).2.1 := by
        rcases Nat.eq_zero_or_pos (rd s).1 with q | q
        · have := (rd_zero s hok q).1; omega
        · omega
      have hl2 : l = true → 1 ≤ (rd s).1 := fun e => by
        rcases Nat.eq_zero_or_pos (rd s).1 with q | q
        · have h3 := (rd_zero s hok q).2
          rw [e] at hl
          simp at hl
          simp at h3
          omega
        · exact q
      simp only [List.length_take, List.length_drop]
      refine ⟨by omega, by omega, fun e => ?_⟩
      have := hl2 e
      omega
theorem thingsF_fuel : ∀ (n m most : Nat) (s : List UInt8), s.length ≤ n → s.length ≤ m → thingsF n most s = thingsF m most s
  | 0, 0, _, _, _, _ => rfl
  | 0, m + 1, most, s, h, _ => by
    have : s = [] := List.eq_nil_of_length_eq_zero (by omega)
    subst this; simp [thingsF]
  | n + 1, 0, most, s, _, h => by
    have : s = [] := List.eq_nil_of_length_eq_zero (by omega)
    subst this; simp [thingsF]
  | n + 1, m + 1, most, s, h1, h2 => by
    unfold thingsF
    by_cases h0 : s = []
    · rw [if_pos h0, if_pos h0]
    · rw [if_neg h0, if_neg h0]
      cases hs : split s with
      | none => rfl
      | some q =>
        obtain ⟨p, l, r⟩ := q
        obtain ⟨a1, a2, a3⟩ := split_len hs
        dsimp only
        rw [thingsF_fuel n m most r (by omega) (by omega)]
        cases l with
        | false => rfl
        | true => rw [thingsF_fuel n m (most - 1) p (by have := a3 rfl; omega) (by have := a3 rfl; omega)]
theorem things_nil (most : Nat) : things most [] = some .nil := rfl
theorem things_none {most : Nat} {s : List UInt8} (h0 : s ≠ []) (h : split s = none) : things most s = none := by
  unfold things
  rw [thingsF_fuel s.length (s.length + 1) most s (by omega) (by omega), thingsF, if_neg h0, h]
theorem things_deep {s : List UInt8} (h0 : s ≠ []) : things 0 s = none := by
  unfold things
  rw [thingsF_fuel s.length (s.length + 1) 0 s (by omega) (by omega), thingsF, if_neg h0]
  cases split s with
  | none => rfl
  | some q => rfl
theorem things_text {most : Nat} {s p r : List UInt8} (h0 : s ≠ []) (h : split s = some (p, false, r)) : things (most + 1) s = (things (most + 1) r).map (Row.item false p .nil) := by
  have := split_len h
  unfold things
  rw [thingsF_fuel s.length (s.length + 1) (most + 1) s (by omega) (by omega), thingsF, if_neg h0, h]
  dsimp only
  rw [if_neg (by omega), thingsF_fuel s.length r.length (most + 1) r (by omega) (by omega)]
theorem things_list {most : Nat} {s p r : List UInt8} (h0 : s ≠ []) (h : split s = some (p, true, r)) : things (most + 1) s = match things most p with
      | none => none
      | some q => (things (most + 1) r).map (Row.item true [] q) := by
  have h2 := split_len h
  have h3 := h2.2.2 rfl
  unfold things
  rw [thingsF_fuel s.length (s.length + 1) (most + 1) s (by omega) (by omega), thingsF, if_neg h0, h]
  dsimp only
  rw [if_neg (by omega), thingsF_fuel s.length r.length (most + 1) r (by omega) (by omega), Nat.add_sub_cancel, thingsF_fuel s.length p.length most p (by omega) (by omega)]
theorem things_len {most : Nat} : ∀ (n : Nat) (s : List UInt8), s.length ≤ n → ∀ r, things most s = some r → r.len ≤ s.length := by
  intro n
  induction n with
  | zero =>
    intro s h r hr
    have : s = [] := List.eq_nil_of_length_eq_zero (by omega)
    subst this
    rw [things_nil] at hr
    cases hr; simp [Row.len]
  | succ n ih =>
    intro s h r hr
    by_cases h0 : s = []
    · subst h0; rw [things_nil] at hr; cases hr; simp [Row.len]
    · cases hs : split s with
      | none => rw [things_none h0 hs] at hr; cases hr
      | some q =>
        obtain ⟨p, l, t⟩ := q
        obtain ⟨a1, a2, a3⟩ := split_len hs
        cases most with
        | zero => rw [things_deep h0] at hr; cases hr
        | succ most =>
          cases l with
          | false =>
            rw [things_text h0 hs] at hr
            obtain ⟨q, hq, rfl⟩ := Option.map_eq_some_iff.1 hr
            have := ih t (by omega) q hq
            simp only [Row.len]; omega
          | true =>
            rw [things_list h0 hs] at hr
            cases hp : things most p with
            | none => rw [hp] at hr; cases hr
            | some q =>
              rw [hp] at hr
              obtain ⟨q2, hq, rfl⟩ := Option.map_eq_some_iff.1 hr
              have := ih t (by omega) q2 hq
              simp only [Row.len]; omega
end Go.Proofs.Ytadpopjhhanapaa
