/-
  slices.Insert of one number into a row that one has alone.
-/
import Derived.Test.YtjklcnknbcmgoaaGreatDoorGE
import Derived.Test.YtjklcnknbcmgoaaGreatDoorShelfB
namespace Go.Proofs.YtjklcnknbcmgoaaGreatDoor
open Go Go.RowKit Go.Maps

theorem ins_get (zs : List Int) (i : Nat) (hi : i ≤ zs.length) (x : Int) (j : Nat) : (zs.take i ++ x :: zs.drop i)[j]? = if j < i then zs[j]? else if j = i then some x else zs[j - 1]? := by
  have hl : (zs.take i).length = i := by simp; omega
  by_cases h1 : j < i
  · rw [if_pos h1, List.getElem?_append_left (by omega), List.getElem?_take_of_lt h1]
  · rw [if_neg h1, List.getElem?_append_right (by omega), hl]
    by_cases h2 : j = i
    · rw [if_pos h2, h2]; simp
    · rw [if_neg h2]
      obtain ⟨k, rfl⟩ : ∃ k, j = i + 1 + k := ⟨j - i - 1, by omega⟩
      rw [show i + 1 + k - i = k + 1 by omega, List.getElem?_cons_succ, List.getElem?_drop, show i + 1 + k - 1 = i + k by omega]
theorem ins_len (zs : List Int) (i : Nat) (hi : i ≤ zs.length) (x : Int) : (zs.take i ++ x :: zs.drop i).length = zs.length + 1 := by
  simp; omega
def vals (zs : List Int) : List Value := zs.map (fun z => Value.int .i64 z)
theorem vals_get (zs : List Int) (j : Nat) : (vals zs)[j]? = zs[j]?.map (fun z => Value.int .i64 z) := by simp [vals]
theorem vals_len (zs : List Int) : (vals zs).length = zs.length := by simp [vals]
theorem vals_one (zs : List Int) : ∀ v ∈ vals zs, v.oneCell' = true := by
  intro v hv
  simp only [vals, List.mem_map] at hv
  obtain ⟨z, _, rfl⟩ := hv
  rfl
theorem one_one (x : Int) : ∀ v ∈ [Value.int .i64 x], v.oneCell' = true := by
  intro v hv
  rw [List.mem_singleton] at hv
  subst hv
  rfl
theorem one_at {w : World} {vb : Nat} {tA : TypeId} {x : Int} (hv : Holds w vb tA #[.int .i64 x]) : ∀ j v, [Value.int .i64 x][j]? = some v → w.cell? ⟨vb, 0 + j, none⟩ = some v := by
  intro j v h
  cases j with
  | zero => simp at h; subst h; exact hv.cell 0
  | succ j => simp at h
theorem zc_size (n : Nat) : (Builtin.zeroCells (Value.int .i64 0).cells n).size = n := by
  have : (Value.int .i64 0).cells = #[.int .i64 0] := rfl
  rw [this]
  simp [Builtin.zeroCells]
theorem Holds.shapeG {w : World} {g : Nat} {t : TypeId} {cur : Array Value} (h : Holds w g t cur) : w.shape? g = some (t, cur.size) := by
  unfold Holds at h
  simp [World.shape?, h]
set_option maxHeartbeats 1000000 in
theorem ginsert_any {w : World} {v : Value} {zs : List Int} (r : IRow w v zs) (i : Nat) (hi : i ≤ zs.length) (hlen : zs.length < 2000000000000) (x : Int) {vb : Nat} {tA : TypeId} (hv : Holds w vb tA #[.int .i64 x]) (hvb : v.ownBlock ≠ some vb) :
    Calls Tryz.prog 67 #[v, .int .i64 i, .slice (some ⟨vb, 0, none⟩) 1 1] w fun e w' => ∃ v', e = .returned v' ∧ IRow w' v' (zs.take i ++ x :: zs.drop i) ∧ Keep (fun k => v.ownBlock = some k) w w' ∧ ∀ k, v'.ownBlock = some k → v.ownBlock = some k ∨ w.heap.size ≤ k := by
  have hmax : maxLen = 9223372036854775807 := rfl
  have hgc : ∀ n c t, n ≤ 2000000000000 → n ≤ grownCap w n c t ∧ grownCap w n c t ≤ maxLen := fun n c t hn => ⟨grownCap_ge w n c t, grownCap_le_maxLen w n c t (by rw [hmax]; omega)⟩
  have hil := ins_len zs i hi x
  have hig := ins_get zs i hi x
  generalize hL : zs.take i ++ x :: zs.drop i = L at hil hig ⊢
  rcases r with ⟨rfl, rfl⟩ | ⟨g, off, cap, cur, rfl, hH, hle, hsz, hmx, hnz, hc⟩
  · have hi0 : i = 0 := by simpa using hi
    subst hi0
    simp at hL
    subst hL
    have hc := Tryz.slices_Insert_int_end_grow none 0 0 vb 0 1 1 [] [.int .i64 x] w (by omega) (by omega) (by omega) (by omega) rfl rfl (fun _ => rfl) (fun a h => by cases h) (one_at hv) (one_one x)
    refine hc.mono ?_
    rintro e w' ⟨rfl, rfl⟩
    have hg := hgc (0 + 1) 0 3 (by omega)
    refine ⟨_, rfl, .inr ⟨_, 0, _, _, rfl, Holds.new _ _ _, ?_, ?_, ?_, ?_, ?_⟩, ⟨rfl, rfl, rfl, by simp, fun k hk _ => Below.heap_alloc _ _ _ hk⟩, fun k hk => .inr (by simp [Value.ownBlock] at hk; omega)⟩
    · show 1 ≤ _
      omega
    · simp only [List.nil_append, Array.size_append, zc_size, List.size_toArray, List.length_cons, List.length_nil]; omega
    · simp only [List.nil_append, Array.size_append, zc_size, List.size_toArray, List.length_cons, List.length_nil]; omega
    · simp only [List.nil_append, Array.size_append, zc_size, List.size_toArray, List.length_cons, List.length_nil]; omega
    · intro j z hz
      cases j with
      | zero =>
        simp at hz
        subst hz
        rw [Array.getElem?_append_left (by simp)]
        rfl
      | succ j => simp at hz
  · have hgb : vb ≠ g := fun e => hvb (by rw [e]; rfl)
    have hcs : ∀ j v, (vals zs)[j]? = some v → w.cell? ⟨g, off + j, none⟩ = some v := fun j v h => by
      rw [vals_get] at h
      cases hz : zs[j]? with
      | none => rw [hz] at h; cases h
      | some z =>
        rw [hz] at h
        injection h with h
        subst h
        rw [hH.cell]
        exact hc j z hz
    have hlt : ∀ j z, zs[j]? = some z → j < zs.length := fun j z h => (List.getElem?_eq_some_iff.1 h).1
    have hsome : ∀ j, j < cap → (w.cell? ⟨g, off + j, none⟩).isSome = true := fun j hj => by
      rw [hH.cell, Array.getElem?_eq_getElem (by omega)]; rfl
    by_cases hroom : zs.length + 1 ≤ cap
    · by_cases hin : i < zs.length
      · have hcc := Tryz.slices_Insert_int_shift g off zs.length cap i vb 0 1 1 (vals zs) [.int .i64 x] w hin (by omega) hroom (by omega) hgb (vals_len zs) rfl hcs (fun j hj => hsome j (by omega)) (fun j _ => hH.frozen _) (one_at hv) (vals_one zs) (one_one x) tA 3 1 cur.size hv.shapeG hH.shapeG hnz (hv.frozen _) (hv.frozen _)
        refine hcc.mono ?_
        rintro e w' ⟨rfl, rfl⟩
        obtain ⟨cur1, q1, q2, q3, q4⟩ := holds_setCells ((vals zs).drop i) (off + (i + 1)) w.drew cur hH
        obtain ⟨cur2, p1, p2, p3, p4⟩ := holds_setCells [Value.int .i64 x] (off + i) _ cur1 q1
        have hO : Only g w ((w.drew.setCells g (off + (i + 1)) ((vals zs).drop i)).setCells g (off + i) [Value.int .i64 x]) := ((Only.refl g w).drew.trans q3).trans p3
        refine ⟨_, rfl, .inr ⟨g, off, cap, cur2, by rw [hil], p1, by omega, by omega, by omega, by omega, ?_⟩, Keep.only hO rfl, fun k hk => .inl hk⟩
        intro j z hz
        rw [hig] at hz
        rw [p4]
        simp only [List.length_cons, List.length_nil]
        by_cases h1 : j < i
        · rw [if_pos h1] at hz
          rw [if_neg (by omega), q4, if_neg (by omega)]
          exact hc j z hz
        · rw [if_neg h1] at hz
          by_cases h2 : j = i
          · rw [if_pos h2] at hz
            injection hz with hz
            subst hz h2
            rw [if_pos (by omega)]
            simp
          · rw [if_neg h2] at hz
            have hj := hlt _ _ hz
            rw [if_neg (by omega), q4, if_pos (by rw [List.length_drop, vals_len]; omega), List.getElem?_drop, vals_get]
            rw [show i + (off + j - (off + (i + 1))) = j - 1 by omega, hz]
            rfl
      · have hie : i = zs.length := by omega
        subst hie
        have hcc := Tryz.slices_Insert_int_end_room g off zs.length cap vb 0 1 1 [.int .i64 x] w (by omega) hroom (by omega) rfl (fun j hj => by rw [Nat.add_assoc]; exact hsome _ (by omega)) (fun j _ => hH.frozen _) (one_at hv) (one_one x)
        refine hcc.mono ?_
        rintro e w' ⟨rfl, rfl⟩
        obtain ⟨cur2, p1, p2, p3, p4⟩ := holds_setCells [Value.int .i64 x] (off + zs.length) w cur hH
        refine ⟨_, rfl, .inr ⟨g, off, cap, cur2, by rw [hil], p1, by omega, by omega, by omega, by omega, ?_⟩, Keep.only p3 rfl, fun k hk => .inl hk⟩
        intro j z hz
        rw [hig] at hz
        rw [p4]
        simp only [List.length_cons, List.length_nil]
        by_cases h1 : j < zs.length
        · rw [if_pos h1] at hz
          rw [if_neg (by omega)]
          exact hc j z hz
        · rw [if_neg h1] at hz
          by_cases h2 : j = zs.length
          · rw [if_pos h2] at hz
            injection hz with hz
            subst hz h2
            rw [if_pos (by omega)]
            simp
          · rw [if_neg h2] at hz
            have hj := hlt _ _ hz
            omega
    · have hcap : cap = zs.length := by omega
      by_cases hin : i < zs.length
      · have hcc := Tryz.slices_Insert_int_grow g off zs.length cap i vb 0 1 1 (vals zs) [.int .i64 x] w hin (by omega) hle (by omega) (by omega) (vals_len zs) rfl hcs (one_at hv) (vals_one zs) (one_one x)
        have hg := hgc (zs.length + 1) cap 3 (by omega)
        refine hcc.mono ?_
        rintro e w' ⟨rfl, rfl⟩
        clear hcc
        generalize grownCap w (zs.length + 1) cap 3 = gc at hg ⊢
        have hn0 := Holds.new w 3 (((vals zs).take i).toArray ++ Builtin.zeroCells (Value.int .i64 0).cells (zs.length + 1 - i) ++ Builtin.zeroCells (Value.int .i64 0).cells (gc - (zs.length + 1)))
        have hsz0 : (((vals zs).take i).toArray ++ Builtin.zeroCells (Value.int .i64 0).cells (zs.length + 1 - i) ++ Builtin.zeroCells (Value.int .i64 0).cells (gc - (zs.length + 1))).size = gc := by
          simp only [Array.size_append, zc_size, List.size_toArray, List.length_take, vals_len]; omega
        have hg0 : ∀ j, j < i → (((vals zs).take i).toArray ++ Builtin.zeroCells (Value.int .i64 0).cells (zs.length + 1 - i) ++ Builtin.zeroCells (Value.int .i64 0).cells (gc - (zs.length + 1)))[j]? = (vals zs)[j]? := fun j hj => by
          rw [Array.getElem?_append_left (by simp only [Array.size_append, zc_size, List.size_toArray, List.length_take, vals_len]; omega), Array.getElem?_append_left (by simp only [List.size_toArray, List.length_take, vals_len]; omega)]
          simp [List.getElem?_take_of_lt hj]
        generalize (((vals zs).take i).toArray ++ Builtin.zeroCells (Value.int .i64 0).cells (zs.length + 1 - i) ++ Builtin.zeroCells (Value.int .i64 0).cells (gc - (zs.length + 1))) = cur0 at hn0 hsz0 hg0 ⊢
        obtain ⟨cur1, q1, q2, q3, q4⟩ := holds_setCells [Value.int .i64 x] i _ cur0 hn0.drew
        obtain ⟨cur2, p1, p2, p3, p4⟩ := holds_setCells ((vals zs).drop i) (i + 1) _ cur1 q1.drew
        have hO := ((Only.refl w.heap.size (w.alloc (.cells cur0 3))).drew.trans q3).drew.trans p3
        refine ⟨_, rfl, .inr ⟨w.heap.size, 0, gc, cur2, by rw [hil], p1, by omega, by omega, by omega, by omega, ?_⟩, Keep.below (Only.fresh (below_new1 w _) hO (Nat.le_refl _)), fun k hk => .inr (by simp [Value.ownBlock] at hk; omega)⟩
        intro j z hz
        rw [hig] at hz
        rw [p4, Nat.zero_add, List.length_drop, vals_len]
        by_cases h1 : j < i
        · rw [if_pos h1] at hz
          rw [if_neg (by omega), q4, if_neg (by simp; omega), hg0 j h1, vals_get, hz]
          rfl
        · rw [if_neg h1] at hz
          by_cases h2 : j = i
          · rw [if_pos h2] at hz
            injection hz with hz
            subst hz h2
            rw [if_neg (by omega), q4, if_pos (by simp; omega)]
            simp
          · rw [if_neg h2] at hz
            have hj := hlt _ _ hz
            rw [if_pos (by omega), List.getElem?_drop, vals_get]
            rw [show i + (j - (i + 1)) = j - 1 by omega, hz]
            rfl
      · have hie : i = zs.length := by omega
        subst hie
        have hcc := Tryz.slices_Insert_int_end_grow (some ⟨g, off, none⟩) zs.length cap vb 0 1 1 (vals zs) [.int .i64 x] w (by omega) hle (by omega) (by omega) (vals_len zs) rfl (fun h => by cases h) (fun a ha j v h => by injection ha with ha; subst ha; have := hcs j v h; by_cases hj : j = 0 <;> simpa [Addr.add, hj] using this) (one_at hv) (one_one x)
        have hg := hgc (zs.length + 1) cap 3 (by omega)
        refine hcc.mono ?_
        rintro e w' ⟨rfl, rfl⟩
        clear hcc
        generalize grownCap w (zs.length + 1) cap 3 = gc at hg ⊢
        have hsz0 : ((vals zs ++ [Value.int .i64 x]).toArray ++ Builtin.zeroCells (Value.int .i64 0).cells (gc - (zs.length + 1))).size = gc := by
          simp only [Array.size_append, zc_size, List.size_toArray, List.length_append, List.length_cons, List.length_nil, vals_len]; omega
        refine ⟨_, rfl, .inr ⟨w.heap.size, 0, gc, _, by rw [hil], Holds.new w.drew _ _, by omega, by rw [hsz0]; omega, by rw [hsz0]; omega, by rw [hsz0]; omega, ?_⟩, ⟨rfl, rfl, rfl, by simp, fun k hk _ => Below.heap_alloc _ _ _ hk⟩, fun k hk => .inr (by simp [Value.ownBlock] at hk; omega)⟩
        intro j z hz
        have hz' := hz
        rw [hig] at hz
        have hjl : j < zs.length + 1 := by
          have := (List.getElem?_eq_some_iff.1 hz').1
          omega
        rw [Nat.zero_add, Array.getElem?_append_left (by simp only [List.size_toArray, List.length_append, List.length_cons, List.length_nil, vals_len]; omega)]
        by_cases h1 : j < zs.length
        · rw [if_pos h1] at hz
          simp only [List.getElem?_toArray]
          rw [List.getElem?_append_left (by rw [vals_len]; exact h1), vals_get, hz]
          rfl
        · rw [if_neg h1, if_pos (by omega)] at hz
          injection hz with hz
          subst hz
          have hj : j = zs.length := by omega
          subst hj
          simp only [List.getElem?_toArray]
          rw [List.getElem?_append_right (by rw [vals_len]; omega), vals_len]
          simp
end Go.Proofs.YtjklcnknbcmgoaaGreatDoor
