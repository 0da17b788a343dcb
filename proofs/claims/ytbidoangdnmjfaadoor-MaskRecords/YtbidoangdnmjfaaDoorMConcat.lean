/-
  slices.Grow and slices.Concat on hashes.
-/
import Derived.Test.YtbidoangdnmjfaaDoorMQHashW
namespace Go.Proofs.YtbidoangdnmjfaaDoor
open Go Go.RowKit

section
variable {w : World} {base : Nat}
theorem wpList_append_zeros {ops : Array Oper} {rest : List Oper} {o : Oper} {a : Act} {Q : Exit → Act → World → Prop} (hgd : o.guard = none) (s x : Operand)
    (ho : o.op = .call { callee := .builtin .append, args := #[s, x], argTypes := #[23, 3] }) {n : Nat} (hs : a.eval s = .slice none 0 0) (hx : a.eval x = .int .i64 (n : Int)) (h0 : 0 < n) (hn : n ≤ 1000000000) (hbase : base ≤ w.heap.size)
    (h : ∀ cap w', OwnH w' base (.slice (some ⟨w.heap.size, 0, none⟩) 0 cap) [] → n ≤ cap → Below w.heap.size w w' → wpList Tryd.prog ops Q rest (a.put o.dst (.slice (some ⟨w.heap.size, 0, none⟩) n cap)) w') : wpList Tryd.prog ops Q (o :: rest) a w := by
  refine wpList_plain hgd fun _ hK => ?_
  obtain ⟨cap, w', hr, h2, h3, h4⟩ := run_append_zerosM (w := w) (base := base) o.type n h0 hn hbase
  unfold Oper.wp execOp
  simp only [ho, resolve, invoke, builtin, Sem.run_bind, Sem.run_pure, Result.andThen_ok, List.map_toArray, List.map_cons, List.map_nil, hs, hx, hr]
  exact hK _ _ (h cap w' h2 h3 h4)
end
set_option maxRecDepth 8000 in
theorem grow_any (n : Nat) (hn : n ≤ 1000000000) (w : World) : Calls Tryd.prog 39 #[.slice none 0 0, .int .i64 (n : Int)] w fun e w' => ∃ v, e = .returned v ∧ OwnH w' w.heap.size v [] ∧ Below w.heap.size w w' := by
  have hni : ¬ (n : Int) < 0 := by omega
  by_cases h0 : n = 0
  · subst h0
    go_enter Tryd.func39, Tryd.ntmps39
    go_wp2_with fail
    go_ret
    exact ⟨_, rfl, OwnH.nil _ _, Below.refl _ _⟩
  · have hpos : (n : Int) > 0 := by omega
    go_enter Tryd.func39, Tryd.ntmps39
    go_wp2_with (at_builtin; refine wpList_append_zeros (base := w.heap.size) rfl _ _ rfl rfl rfl (by omega) hn (Nat.le_refl _) ?_; intro cap w1 hown hcap hB1)
    go_ret
    exact ⟨_, rfl, hown, hB1⟩
/-- Rows of chunks, and what they have together. -/
theorem sum_take {ls : List (List H32)} {k : Nat} {l : List H32} (h : ls[k]? = some l) : (ls.take (k + 1)).flatten = (ls.take k).flatten ++ l := by
  rw [List.take_add_one, h, List.flatten_append]
  simp
theorem sum_le {ls : List (List H32)} (k : Nat) : (ls.take k).flatten.length ≤ ls.flatten.length := by
  have : ls.flatten = (ls.take k).flatten ++ (ls.drop k).flatten := by rw [← List.flatten_append, List.take_append_drop]
  rw [this, List.length_append]
  omega
theorem below_grownE {w0 w w' : World} {v : Value} (h : Below w0.heap.size w0 w) (g : w.grownBy w' v.ownBlock) (hv : ∀ k, v.ownBlock = some k → w0.heap.size ≤ k) : Below w0.heap.size w0 w' :=
  ⟨g.os.trans h.os, g.tape.trans h.tape, g.output.trans h.output, Nat.le_trans h.size g.size, fun k hk => (g.block k (Nat.lt_of_lt_of_le hk h.size) (fun e => by have := hv k e.symm; omega)).trans (h.block k hk)⟩
set_option maxRecDepth 8000 in
set_option maxHeartbeats 1000000 in
theorem concat_any {w : World} {q : Nat} {vs : List Value} {ls : List (List H32)} (hq : Holds w q 23 vs.toArray) (hlen : vs.length = ls.length) (hvs : ∀ (i : Nat) v l, vs[i]? = some v → ls[i]? = some l → HashesAt w v l) (hsum : ls.flatten.length ≤ 1000000) (hn : vs.length ≤ 1000) :
    Calls Tryd.prog 35 #[.slice (some ⟨q, 0, none⟩) vs.length vs.length] w fun e w' => ∃ v, e = .returned v ∧ OwnH w' w.heap.size v ls.flatten ∧ Below w.heap.size w w' := by
  have hni : (vs.length : Int) ≤ 1000 := by omega
  obtain ⟨S, hS⟩ : ∃ S : Nat → Nat, ∀ k, S k = (ls.take k).flatten.length := ⟨_, fun _ => rfl⟩
  have hS0 : S 0 = 0 := by rw [hS]; rfl
  have hSn : S vs.length = ls.flatten.length := by rw [hS, hlen, List.take_length]
  have hSl : ∀ k, S k ≤ 1000000 := fun k => by rw [hS]; exact Nat.le_trans (sum_le k) hsum
  have hSk : ∀ k l, ls[k]? = some l → S (k + 1) = S k + l.length := fun k l h => by rw [hS, hS, sum_take h, List.length_append]
  obtain ⟨n, hn'⟩ : ∃ n, vs.length = n := ⟨_, rfl⟩
  rw [hn'] at hni hn hSn hlen ⊢
  have HL : Hid (n = ls.length) := hlen
  have HV : Hid (vs.length = n) := hn'
  clear hlen hn'
  go_enter Tryd.func35, Tryd.ntmps35
  go_wp2_with fail
  go_loopw [3, 11] (fun x y wr => ∃ k : Nat, y = .int .i64 (k : Nat) ∧ k ≤ n ∧ x = .int .i64 (S k : Nat) ∧ wr = w) (fun _ y _ => n - (intOf y).toNat)
  case atStart => exact ⟨0, rfl, Nat.zero_le _, by rw [hS0]; rfl, rfl⟩
  case round =>
    obtain ⟨k, rfl, hk, rfl, hww⟩ := hrel
    have hww' := hww.symm
    clear hww
    subst hww'
    by_cases hkn : k < n
    · have hki : (k : Int) < n := by omega
      obtain ⟨v, hv⟩ : ∃ v, vs[k]? = some v := ⟨_, List.getElem?_eq_getElem (by have := HV.out; omega)⟩
      obtain ⟨l, hl⟩ : ∃ l, ls[k]? = some l := ⟨_, List.getElem?_eq_getElem (by have := HL.out; omega)⟩
      have hc : w.cell? ⟨q, k, none⟩ = some v := by rw [hq.cell k]; simpa using hv
      obtain ⟨p, c, rfl⟩ := (hvs k v l hv hl).shape
      have HT : Hid (S (k + 1) = S k + l.length) := hSk k l hl
      have h1 : S k + l.length ≤ 1000000 := by rw [← hSk k l hl]; exact hSl _
      clear hSk hSl hS hS0 hSn
      generalize S k = s0 at HT h1 ⊢
      have hs0 : (s0 : Int) + l.length ≤ 1000000 := by omega
      have hs1 : ¬ ((s0 : Int) + l.length) < 0 := by omega
      go_wp2_with fail
      go_roundw
      case rel => exact ⟨k + 1, by go_num, by omega, by rw [HT.out]; go_num, trivial⟩
      case measure => simp [intOf]; omega
    · have hki : ¬ (k : Int) < n := by omega
      obtain rfl : k = n := by omega
      rw [hSn]
      have hgr := grow_any ls.flatten.length (by omega) w
      generalize ls.flatten.length = tot at hgr ⊢
      go_wp2_with fail
      refine hgr.mono ?_
      rintro e w1 ⟨v1, rfl, hown, hB1⟩
      clear hgr
      obtain ⟨g1, g2, rfl⟩ : ∃ p c, v1 = .slice p 0 c := by
        obtain ⟨p, c, e⟩ := hown.at.shape
        exact ⟨p, c, e⟩
      go_wp2_with fail
      go_loopw [6, 27] (fun x y w2 => ∃ j : Nat, y = .int .i64 (j : Nat) ∧ j ≤ k ∧ OwnH w2 w.heap.size x (ls.take j).flatten ∧ Below w.heap.size w w2) (fun _ y _ => k - (intOf y).toNat)
      case atStart => exact ⟨0, rfl, Nat.zero_le _, hown, hB1⟩
      case round =>
        clear hown hB1
        obtain ⟨j, rfl, hj, hox, hBx⟩ := hrel
        by_cases hjn : j < k
        · have hji : (j : Int) < k := by omega
          obtain ⟨v, hv⟩ : ∃ v, vs[j]? = some v := ⟨_, List.getElem?_eq_getElem (by have := HV.out; omega)⟩
          obtain ⟨l, hl⟩ : ∃ l, ls[j]? = some l := ⟨_, List.getElem?_eq_getElem (by have := HL.out; omega)⟩
          have hc : wr.cell? ⟨q, j, none⟩ = some v := by
            rw [hBx.cell (p := ⟨q, j, none⟩) hq.lt, hq.cell j]; simpa using hv
          have hcx := (hvs j v l hv hl).below hBx
          obtain ⟨p, c, rfl⟩ := hcx.shape
          have HST : Hid ((ls.take (j + 1)).flatten = (ls.take j).flatten ++ l) := sum_take hl
          have hsl : (ls.take j).flatten.length + l.length ≤ 1000000000 := by
            have := sum_le (ls := ls) (j + 1)
            rw [sum_take hl, List.length_append] at this
            omega
          have hsz := hBx.size
          obtain ⟨p6, c6, rfl⟩ := hox.at.shape
          generalize (ls.take j).flatten = K at hox HST hsl ⊢
          have hnew : ∀ k, (Value.slice p6 K.length c6).ownBlock = some k → w.heap.size ≤ k := hox.new
          go_wp2_with (at_builtin; refine wpList_append_h rfl _ _ rfl rfl rfl hox hcx hsl hsz ?_; intro v5 w5 hown5 hg5; obtain ⟨p5, c5, rfl⟩ := hown5.at.shape)
          have hB5 := below_grownE hBx hg5 hnew
          go_roundw
          case rel => exact ⟨j + 1, by go_num, by omega, by rw [HST.out]; rw [List.length_append] at hown5; exact hown5, hB5⟩
          case measure => simp [intOf]; omega
        · have hji : ¬ (j : Int) < k := by omega
          obtain rfl : j = k := by omega
          have HO : Hid (OwnH wr w.heap.size u6 ls.flatten) := by
            have := hox
            rw [HL.out, List.take_length] at this
            exact this
          clear hox
          go_wp2_with fail
          go_ret
          exact ⟨_, rfl, HO.out, hBx⟩
end Go.Proofs.YtbidoangdnmjfaaDoor
