/-
  An account's record is read as that account; two accounts, held against each other.
-/
import Derived.Test.YtamijfdhaahalaaDoorSReadA
import Derived.Test.YtamijfdhaahalaaDoorRBack
import Derived.Laws.StructEq
namespace Go.Proofs.YtamijfdhaahalaaDoor
open Go Go.RowKit

theorem rowS_cons (x : ByteArray) (xs : List ByteArray) : rowS (x :: xs) = bytesL x.data.toList ++ rowS xs := by
  unfold rowS cat bytesS
  simp
theorem texts_row : ∀ (xs : List ByteArray), (∀ x ∈ xs, x.size < 4611686018427387904) → texts xs.length (rowS xs) = some (xs.map (·.data.toList), [])
  | [], _ => rfl
  | x :: xs, h => by
    have ih := texts_row xs (fun y hy => h y (List.mem_cons_of_mem _ hy))
    have hs := split_bytes x.data.toList (rowS xs) (by rw [sizeB]; exact h x (List.mem_cons_self ..))
    rw [List.length_cons, rowS_cons, texts_text hs, ih]
    rfl
theorem quad_row {xs : List ByteArray} (h4 : xs.length = 4) (h : ∀ x ∈ xs, x.size < 10000) : quad (listL (rowS xs)) = some (xs.map (·.data.toList)) := by
  have hl := rowS_len 10000 xs (fun x hx => Nat.le_of_lt (h x hx))
  have hs := split_list (rowS xs) [] (by rw [h4] at hl; omega)
  rw [List.append_nil] at hs
  have ht := texts_row xs (fun x hx => by have := h x hx; omega)
  rw [h4] at ht
  unfold quad
  rw [hs]
  show (match texts 4 (rowS xs) with | some (ps, []) => some ps | _ => none) = _
  rw [ht]
theorem bytesOf_list (x : ByteArray) : bytesOf x.data.toList = x := by unfold bytesOf; simp
theorem num_size (n : Nat) : (⟨(num n).toArray⟩ : ByteArray).size ≤ 8 := num_len n
theorem read_back {n k : Nat} {b c : ByteArray} (hn : n < 18446744073709551616) (hok : okA b.data.toList c.data.toList k = true) : readA (recL n b c k) = some (n, b, c, k) := by
  obtain ⟨o1, o2, o3, o4⟩ := (okA_iff b c k).1 hok
  have hbs := right_size o1
  have h1 := num_size n
  have h2 := num_size k
  unfold readA recL
  rw [quad_row rfl (by
    intro x hx
    simp only [List.mem_cons, List.mem_nil_iff, or_false] at hx
    rcases hx with rfl | rfl | rfl | rfl <;> omega)]
  show acctOf _ = _
  unfold acctOf
  have e0 : uint (bytesOf (([⟨(num n).toArray⟩, b, c, ⟨(num k).toArray⟩].map (·.data.toList)).getD 0 [])).data.toList = some n := uint_num n hn
  have e3 : uint (bytesOf (([⟨(num n).toArray⟩, b, c, ⟨(num k).toArray⟩].map (·.data.toList)).getD 3 [])).data.toList = some k := uint_num k (by omega)
  have e1 : bytesOf (([⟨(num n).toArray⟩, b, c, ⟨(num k).toArray⟩].map (·.data.toList)).getD 1 []) = b := bytesOf_list b
  have e2 : bytesOf (([⟨(num n).toArray⟩, b, c, ⟨(num k).toArray⟩].map (·.data.toList)).getD 2 []) = c := bytesOf_list c
  simp only [e0, e3, e1, e2, hok, if_true]
theorem rec_inj {n m k j : Nat} {b c b' c' : ByteArray} (hn : n < 18446744073709551616) (hm : m < 18446744073709551616) (h1 : okA b.data.toList c.data.toList k = true) (h2 : okA b'.data.toList c'.data.toList j = true)
    (h : recL n b c k = recL m b' c' j) : n = m ∧ b = b' ∧ c = c' ∧ k = j := by
  have e1 := read_back hn h1
  have e2 := read_back hm h2
  rw [h, e2] at e1
  simp only [Option.some.injEq, Prod.mk.injEq] at e1
  exact ⟨e1.1.symm, e1.2.1.symm, e1.2.2.1.symm, e1.2.2.2.symm⟩
def recT (n : Nat) (b c : ByteArray) (z : Int) : ByteArray := if okA b.data.toList c.data.toList z = true then ⟨(recL n b c z.toNat).toArray⟩ else ⟨#[]⟩
theorem record_any (n : Nat) (b c : ByteArray) (z : Int) (w : World) (hn : n < 18446744073709551616) :
    Calls Tryd.prog 22 #[.agg (acct n b c z)] w fun e w' => e = .returned (.tuple #[.string (recT n b c z), .int .i64 (chkE b.data.toList c.data.toList z)]) ∧ Below w.heap.size w w' := by
  cases h : okA b.data.toList c.data.toList z with
  | false =>
    have := record_no n b c z w h
    unfold recT chkE
    rw [h]
    exact this
  | true =>
    obtain ⟨_, _, o3, _⟩ := (okA_iff b c z).1 h
    obtain ⟨k, rfl⟩ := Int.eq_ofNat_of_zero_le o3
    have := record_ok n k b c w hn h
    unfold recT chkE
    rw [h]
    exact this
theorem chk_ok {b c : ByteArray} {z : Int} (h : okA b.data.toList c.data.toList z = true) : chkE b.data.toList c.data.toList z = 0 := by unfold chkE; rw [h]; rfl
theorem chk_no {b c : ByteArray} {z : Int} (h : okA b.data.toList c.data.toList z = false) : chkE b.data.toList c.data.toList z = 1 := by unfold chkE; rw [h]; rfl

theorem guardAcct : Tryd.prog.eqGuardType Tryd.prog.depth 33 = false := by kernel_rfl
theorem eql_acct (w : World) (n m : Nat) (b c b' c' : ByteArray) (z z' : Int) : (Op.equalIn 10000 33 (.agg (acct n b c z)) (.agg (acct m b' c' z'))).run Tryd.prog w = .ok (((n : Int) == m) && (b.toList == b'.toList) && (c.toList == c'.toList) && (z == z')) w := by
  rw [run_equalIn_struct w 9999 33 _ _ (by kernel_rfl) (by kernel_rfl)]
  unfold acct
  go_simp
  by_cases h1 : (n : Int) = m <;> by_cases h2 : b.toList = b'.toList <;> by_cases h3 : c.toList = c'.toList <;> by_cases h4 : z = z' <;> simp [h1, h2, h3, h4]
end Go.Proofs.YtamijfdhaahalaaDoor
