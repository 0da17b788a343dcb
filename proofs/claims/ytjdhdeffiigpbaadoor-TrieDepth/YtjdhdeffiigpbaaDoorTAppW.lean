/-
  An append of one pair, behind which the old row stays as it was, too.
-/
import Derived.Test.YtjdhdeffiigpbaaDoorTMayW
namespace Go.Proofs.YtjdhdeffiigpbaaDoor
open Go Go.RowKit

theorem append_keep {P : Program} {w w' : World} {base : Nat} {t ty e : TypeId} {i : TypeInfo} {z v v' : Value} (ht : P.underlying t = some (.slice e)) (hi : P.info? e = some i) (hz : i.zero = some z)
    {n : Nat} {xs : List Value} (hown : w.ownsRow base e i.size v n xs) {a : Addr} {m c : Nat} {news : List Value} (hl : news.length = m * i.size)
    (hnews : ∀ j u, news[j]? = some u → w.cell? (a.add j) = some u) (h1 : ∀ u ∈ news, u.oneCell' = true) (h63 : n + m ≤ maxLen) (hbytes : (n + m) * i.bytes ≤ 140737488355328)
    (hr : (Builtin.append_ #[t, t] ty #[v, .slice (some a) m c]).run P w = .ok v' w') : w'.ownsRow base e i.size v n xs := by
  have hsmall : n + m ≤ 9223372036854775807 := by simp only [maxLen] at h63; omega
  rcases hown.2 with ⟨rfl, rfl⟩ | ⟨g, cap, cur, rfl, hbg, hg, hnc, hcm, hcs, htake⟩
  · exact ⟨hown.1, .inl ⟨rfl, rfl⟩⟩
  · by_cases hroom : n + m ≤ cap
    · have hfit : n * i.size + news.length ≤ cur.size := by rw [hl, hcs, ← Nat.add_mul]; exact Nat.mul_le_mul_right _ hroom
      have h2 := run_append_room (P := P) w t ty e i ht hi g n cap cur hg a m c news hl hnews h1 hroom hfit
      rw [hr] at h2
      injection h2 with h3 h4
      refine ⟨hown.1, .inr ⟨g, cap, _, rfl, hbg, by rw [h4]; exact setRow_heap w g cur _ e _ hg, hnc, hcm, ?_, ?_⟩⟩
      · simp only [List.size_toArray, List.length_append, List.length_take, List.length_drop, Array.length_toList]
        omega
      · rw [htake, List.append_assoc]
        exact List.take_left' hown.1
    · have h2 := run_append_grow (P := P) w t ty e i z ht hi hz ⟨g, 0, none⟩ n cap xs hown.1 (hown.cells (g := g) rfl) a m c news hl hnews (by omega) (by omega) (growslice_fits (by omega) hbytes)
      rw [hr] at h2
      injection h2 with h3 h4
      refine ⟨hown.1, .inr ⟨g, cap, cur, rfl, hbg, ?_, hnc, hcm, hcs, htake⟩⟩
      rw [h4]
      exact (heap_alloc_old w.drew _ (Array.getElem?_eq_some_iff.1 hg).1).trans hg
theorem wpList_append_one {w : World} {base : Nat} {v : Value} {K : List Pr} {p : Pr} {g : Nat} {ops : Array Oper} {rest : List Oper} {o : Oper} {a : Act} {Q : Exit → Act → World → Prop} (hgd : o.guard = none) (s x : Operand)
    (ho : o.op = .call { callee := .builtin .append, args := #[s, x], argTypes := #[30, 30] }) (hs : a.eval s = v) (hx : a.eval x = .slice (some ⟨g, 0, none⟩) 1 1) (hown : OwnPairs w base v K) (hy : PairAt w g 0 p) (hl : K.length + 1 ≤ 1000000000) (hbase : base ≤ w.heap.size)
    (h : ∀ v' w', OwnPairs w' base v' (K ++ [p]) → OwnPairs w' base v K → w.grownBy w' v.ownBlock → wpList Tryd.prog ops Q rest (a.put o.dst v') w') : wpList Tryd.prog ops Q (o :: rest) a w := by
  refine wpList_plain hgd fun _ hK => ?_
  obtain ⟨i0, hi, hz0, hz1, hz2⟩ := infoPair
  have hnews : ∀ j u, (pcells [p])[j]? = some u → w.cell? ((⟨g, 0, none⟩ : Addr).add j) = some u := fun j u hu => by
    rw [add_plainT, Nat.zero_add]
    match j, hu with
    | 0, hu => exact hy.1.trans (by simpa [pcells, encP] using hu)
    | 1, hu => exact hy.2.trans (by simpa [pcells, encP] using hu)
    | j + 2, hu => simp [pcells, encP] at hu
  obtain ⟨v', w', hr, h2, h3, _⟩ := run_append_own (P := Tryd.prog) w base 30 o.type 33 i0 (.agg #[.string ⟨#[]⟩, .string ⟨#[]⟩]) 2 32 underPairs hi hz0 hz1 hz2 rfl (by decide) v K.length (pcells K) hown ⟨g, 0, none⟩ 1 1 (pcells [p]) (pcells_len [p]) hnews (pcells_one [p]) (by unfold maxLen; omega) (by omega) hbase
  have hown' : w.ownsRow base 33 i0.size v K.length (pcells K) := by rw [hz1]; exact hown
  have hkeep := append_keep (P := Tryd.prog) underPairs hi hz0 hown' (by rw [hz1]; exact pcells_len [p]) hnews (pcells_one [p]) (by unfold maxLen; omega) (by rw [hz2]; omega) hr
  rw [hz1] at hkeep
  unfold Oper.wp execOp
  simp only [ho, resolve, invoke, builtin, Sem.run_bind, Sem.run_pure, Result.andThen_ok, List.map_toArray, List.map_cons, List.map_nil, hs, hx, hr]
  refine hK _ _ (h v' w' ?_ hkeep h3)
  unfold OwnPairs
  rw [List.length_append, pcells_app]
  exact h2
theorem fill_pair1 (a b : Value) : Instr.fill (fun i => some (i * 2, 2)) ((Array.range (1 * 2)).map ((#[.string ⟨#[]⟩, .string ⟨#[]⟩] : Array Value)[· % 2]!)) [(0, .agg #[a, b])] = some #[a, b] := by kernel_rfl
theorem run_pair1 (a b : Value) (w : World) : (Instr.buildSlice 30 1 #[(0, .agg #[a, b])]).run Tryd.prog w = .ok (.slice (some ⟨w.heap.size, 0, none⟩) 1 1) (w.alloc (.cells #[a, b] 33)) := by
  have h := fill_pair1 a b
  have hz := Tryd.zeroValue33 w
  have hs := Tryd.sizeOf33 w
  unfold Instr.buildSlice
  simp only [Sem.run_bind, run_underlying Tryd.underlying30, Result.andThen_ok, hs]
  rw [if_neg (by decide), if_neg (by decide)]
  simp only [Sem.run_bind, hz, Result.andThen_ok, Sem.run_pure, Value.cells]
  have e : (#[Value.string ⟨#[]⟩, Value.string ⟨#[]⟩] : Array Value).size = 2 := rfl
  simp only [e, h]
  simp [go_sem]
end Go.Proofs.YtjdhdeffiigpbaaDoor
