/-
  What Branch does.
-/
import Derived.Test.YtjdhdeffiigpbaaDoorTLeafW
namespace Go.Proofs.YtjdhdeffiigpbaaDoor
open Go Go.RowKit

def orB (x y : ByteArray) : ByteArray := if x.size = 0 then y else x
theorem empty_of_size {y : ByteArray} (h : y.size = 0) : y = ⟨#[]⟩ := by
  obtain ⟨d⟩ := y
  have h1 : d.size = 0 := h
  have : d = #[] := Array.eq_empty_of_size_eq_zero h1
  rw [this]
set_option maxRecDepth 4000 in
theorem or_any (x y : ByteArray) (w : World) :
    Calls Tryd.prog 31 #[.slice (some ⟨w.heap.size, 0, none⟩) 2 2] (w.alloc (.cells #[.string x, .string y] 9)) fun e w' => e = .returned (.string (orB x y)) ∧ w' = w.alloc (.cells #[.string x, .string y] 9) := by
  have h0 : (w.alloc (.cells #[.string x, .string y] 9)).cell? ⟨w.heap.size, 0, none⟩ = some (.string x) := two_texts w x y 0 x rfl
  have h1 : (w.alloc (.cells #[.string x, .string y] 9)).cell? ⟨w.heap.size, 1, none⟩ = some (.string y) := two_texts w x y 1 y rfl
  obtain ⟨W, hW⟩ : ∃ W, w.alloc (.cells #[.string x, .string y] 9) = W := ⟨_, rfl⟩
  obtain ⟨b, hb⟩ : ∃ b, w.heap.size = b := ⟨_, rfl⟩
  rw [hW, hb] at h0 h1 ⊢
  clear hW hb
  have HO : Hid ((x.size = 0 → y.size = 0 → orB x y = ⟨#[]⟩) ∧ (x.size = 0 → orB x y = y) ∧ (x.size ≠ 0 → orB x y = x)) :=
    ⟨fun h h' => by unfold orB; rw [if_pos h, empty_of_size h'], fun h => by unfold orB; rw [if_pos h], fun h => by unfold orB; rw [if_neg h]⟩
  go_enter Tryd.func31, Tryd.ntmps31
  go_wp2_with fail
  go_loopw [8] (fun z wr => wr = W ∧ (z = .int .i64 0 ∨ z = .int .i64 1 ∧ Hid (x.size = 0) ∨ z = .int .i64 2 ∧ Hid (x.size = 0 ∧ y.size = 0))) (fun z _ => 2 - (intOf z).toNat)
  case atStart => exact ⟨rfl, .inl rfl⟩
  case round =>
    obtain ⟨rfl, h⟩ := hrel
    rcases h with rfl | ⟨rfl, hx⟩ | ⟨rfl, hxy⟩
    · by_cases hx : x.size = 0
      · have ex := isEmpty0 x hx
        have HX : Hid (x.size = 0) := hx
        clear hx
        go_wp2_with fail
        go_roundw
        case rel => exact ⟨trivial, .inr (.inl ⟨rfl, HX⟩)⟩
        case measure => simp [intOf]
      · have ex := notEmpty x hx
        have HX : Hid (x.size ≠ 0) := hx
        clear hx
        go_wp2_with fail
        go_ret
        exact ⟨by rw [HO.out.2.2 HX.out]; rfl, rfl⟩
    · by_cases hy : y.size = 0
      · have ey := isEmpty0 y hy
        have HY : Hid (y.size = 0) := hy
        clear hy
        go_wp2_with fail
        go_roundw
        case rel => exact ⟨trivial, .inr (.inr ⟨rfl, hx.out, HY.out⟩)⟩
        case measure => simp [intOf]
      · have ey := notEmpty y hy
        clear hy
        go_wp2_with fail
        go_ret
        exact ⟨by rw [HO.out.2.1 hx.out]; rfl, rfl⟩
    · go_wp2_with fail
      go_ret
      exact ⟨by rw [HO.out.1 hxy.out.1 hxy.out.2]; rfl, rfl⟩
/-- A row of texts. -/
def strA (n : Nat) (R : Nat → ByteArray) : Array Value := Array.ofFn (n := n) fun i => .string (R i.val)
theorem strA_size (n : Nat) (R : Nat → ByteArray) : (strA n R).size = n := by simp [strA]
theorem strA_get (n : Nat) (R : Nat → ByteArray) (i : Nat) (h : i < n) : (strA n R)[i]? = some (.string (R i)) := by simp [strA, h]
theorem strA_one (n : Nat) (R : Nat → ByteArray) : (strA n R).all (fun x => x.oneCell') = true := by
  rw [Array.all_eq_true]
  intro i hi
  simp [strA]; rfl
theorem strA_set (n : Nat) (R : Nat → ByteArray) (i : Nat) (_ : i < n) (x : ByteArray) : (strA n R).setIfInBounds i (.string x) = strA n (fun j => if j = i then x else R j) := by
  refine Array.ext_getElem? fun j => ?_
  rw [Array.getElem?_setIfInBounds]
  by_cases hj : j < n
  · rw [strA_get n _ j hj, strA_get n _ j hj, strA_size]
    by_cases e : i = j
    · subst e; simp [hj]
    · have e' : ¬ j = i := fun h => e h.symm
      simp [e, e']
  · have h1 : n ≤ j := by omega
    rw [Array.getElem?_eq_none (by rw [strA_size]; exact h1), Array.getElem?_eq_none (by rw [strA_size]; exact h1)]
    split
    · rename_i e; subst e; rw [if_neg (by rw [strA_size]; exact hj)]
    · rfl
theorem strA_congr {n : Nat} {R S : Nat → ByteArray} (h : ∀ i, i < n → R i = S i) : strA n R = strA n S := by
  refine Array.ext_getElem? fun j => ?_
  by_cases hj : j < n
  · rw [strA_get n _ j hj, strA_get n _ j hj, h j hj]
  · rw [Array.getElem?_eq_none (by rw [strA_size]; omega), Array.getElem?_eq_none (by rw [strA_size]; omega)]
theorem zero17 : ∀ w, (zeroValue 53).run Tryd.prog w = .ok (.agg (strA 17 fun _ => ⟨#[]⟩)) w := (zero_of_info (n := 17) (by kernel_rfl)).1
theorem zero16 : ∀ w, (zeroValue 22).run Tryd.prog w = .ok (.agg (strA 16 fun _ => ⟨#[]⟩)) w := (zero_of_info (n := 16) (by kernel_rfl)).1
theorem info17 : (Tryd.prog.info? 53).map (·.size) = some 17 := by kernel_rfl
theorem info16 : (Tryd.prog.info? 22).map (·.size) = some 16 := by kernel_rfl
/-- How many parts of a branch are put together. -/
def partB (R : Nat → ByteArray) (n j : Nat) : ByteArray := if j < n then orB (R j) ⟨#[128]⟩ else if j = 16 then ⟨#[128]⟩ else ⟨#[]⟩
theorem built17 (x : ByteArray) : Tryd.prog.built 53 [(16, .string x)] = some (strA 17 fun j => if j = 16 then x else ⟨#[]⟩) := by kernel_rfl
theorem wpList_build17 {ops : Array Oper} {rest : List Oper} {op : Oper} {a : Act} {w : World} {Q : Exit → Act → World → Prop} (hgd : op.guard = none) (x : Operand) (ho : op.op = .build 53 #[(16, x)])
    {z : ByteArray} (hx : a.eval x = .string z)
    (h : wpList Tryd.prog ops Q rest (a.put op.dst (.agg (strA 17 fun j => if j = 16 then z else ⟨#[]⟩))) w) : wpList Tryd.prog ops Q (op :: rest) a w :=
  wpList_plain hgd fun _ hK => by
    unfold Oper.wp execOp
    simp only [ho]
    have e : (#[(16, x)] : Array (Nat × Operand)).map (fun (i, z) => (i, a.eval z)) = #[(16, .string z)] := by simp [hx]
    rw [e]
    simp only [Sem.run_bind, run_build w 53 _ _ (built17 z), Result.andThen_ok, Sem.run_pure]
    exact hK _ _ h
theorem cat_parts (R : Nat → ByteArray) : listL (cat ((List.range 17).map (partB R 16))) = brL fun c => (R c).data.toList := by
  have h1 : (List.range 17).map (partB R 16) = (List.range 16).map (partB R 16) ++ [⟨#[128]⟩] := by
    rw [List.range_succ, List.map_append]; rfl
  unfold brL
  rw [h1]
  congr 1
  unfold cat
  rw [List.map_append, List.flatten_append, List.map_map]
  congr 2
  refine List.map_congr_left fun c hc => ?_
  have hc16 : c < 16 := List.mem_range.1 hc
  show (partB R 16 c).data.toList = _
  unfold partB orB
  rw [if_pos hc16]
  by_cases h : (R c).size = 0
  · rw [if_pos h, if_pos (List.eq_nil_of_length_eq_zero h)]
  · rw [if_neg h, if_neg]
    intro e
    have e' : (R c).data.toList = [] := e
    exact h (by rw [← sizeB, e']; rfl)
theorem partB_size {R : Nat → ByteArray} {m : Nat} (hR : ∀ c, c < 16 → (R c).size ≤ m) (hm : 1 ≤ m) (n j : Nat) (hn : n ≤ 16) : (partB R n j).size ≤ m := by
  unfold partB orB
  split
  · split
    · exact hm
    · exact hR j (by omega)
  · split
    · exact hm
    · exact Nat.zero_le _
theorem cat_le (m : Nat) : ∀ xs : List ByteArray, (∀ x ∈ xs, x.size ≤ m) → (cat xs).length ≤ xs.length * m
  | [], _ => by simp [cat]
  | x :: xs, h => by
    have h1 := cat_le m xs fun y hy => h y (List.mem_cons_of_mem _ hy)
    have h2 := h x List.mem_cons_self
    have e : cat (x :: xs) = x.data.toList ++ cat xs := rfl
    rw [e, List.length_append, sizeB, List.length_cons, Nat.succ_mul]
    omega
set_option maxRecDepth 8000 in
theorem branch_any (R : Nat → ByteArray) (w : World) (hR : ∀ c, c < 16 → (R c).size ≤ 1000000) :
    Calls Tryd.prog 12 #[.agg (strA 16 R)] w fun e w' => e = .returned (.string ⟨(brL fun c => (R c).data.toList).toArray⟩) ∧ Below w.heap.size w w' := by
  have hcb := fun w => bytes_any ⟨#[]⟩ w (by decide)
  have e128 : (⟨(bytesL (⟨#[]⟩ : ByteArray).data.toList).toArray⟩ : ByteArray) = ⟨#[128]⟩ := rfl
  rw [e128] at hcb
  have HR : Hid (∀ c, c < 16 → (R c).size ≤ 1000000) := hR
  have hz := zero17
  obtain ⟨zs, hzs⟩ : ∃ zs, strA 17 (fun _ => ⟨#[]⟩) = zs := ⟨_, rfl⟩
  have hzz : zs.size = 17 := by rw [← hzs]; exact strA_size 17 _
  obtain ⟨rs, hrs⟩ : ∃ rs, strA 16 R = rs := ⟨_, rfl⟩
  have HRS : Hid (strA 16 R = rs) := hrs
  obtain ⟨ps, hps⟩ : ∃ ps, strA 17 (fun j => if j = 16 then (⟨#[128]⟩ : ByteArray) else ⟨#[]⟩) = ps := ⟨_, rfl⟩
  have hpp : ps.size = 17 := by rw [← hps]; exact strA_size 17 _
  have hon : ps.all (fun x => x.oneCell') = true := by rw [← hps]; exact strA_one 17 _
  have hin : (Tryd.prog.info? 53).map (·.size) = some ps.size := by rw [hpp]; exact info17
  have HPS : Hid (strA 17 (fun j => if j = 16 then (⟨#[128]⟩ : ByteArray) else ⟨#[]⟩) = ps) := hps
  rw [hzs] at hz
  rw [hrs]
  obtain ⟨r, hr⟩ : ∃ r, w.heap.size = r := ⟨_, rfl⟩
  have hH0 : K.Holds (w.alloc (.cells rs 22)) r 22 rs := hr ▸ K.Holds.new w 22 rs
  clear hR hrs hps hzs e128
  go_enter Tryd.func12, Tryd.ntmps12
  go_wp2_with fail
  refine (hcb _).mono ?_
  rintro e w1 ⟨rfl, hB1⟩
  have h1 := K.Below.holds hB1 hH0
  have hB1' : Below w.heap.size w w1 := alloc_below hB1
  obtain ⟨p, hp⟩ : ∃ p, w1.heap.size = p := ⟨_, rfl⟩
  have hpw : w.heap.size ≤ p := hp ▸ hB1'.size
  have hrp : r < p := hp ▸ h1.lt
  go_wp2_with (first
    | (refine wpList_build17 rfl _ rfl rfl ?_; rw [HPS.out])
    | (refine K.wpList_storeH rfl 53 _ _ rfl p ps rfl rfl 53 zs (hp ▸ K.Holds.new _ _ _) hin (by rw [hzz, hpp]) hon ?_
       intro w3 h3 o3 z3)
    | fail)
  have h3r : K.Holds w3 r 22 rs := o3.holds (h1.alloc _) (by omega)
  have hB3 : Below w.heap.size w w3 := K.Only.fresh (hB1'.trans (((Below.refl _ _).alloc (Nat.le_refl _) _).mono hB1'.size)) o3 hpw
  have HP0 : Hid (strA 17 (partB R 0) = ps) := by
    show _ = _
    rw [← HPS.out]
    refine strA_congr fun i _ => ?_
    unfold partB
    rw [if_neg (Nat.not_lt_zero _)]
  have HB : Hid (Below w.heap.size w w3) := hB3
  have HW : Hid (w.heap.size ≤ p) := hpw
  clear hB3 hpw hB1' hB1 h1 o3 z3 hH0 hr hp hz hin hon
  go_loopw [9] (fun z wr => ∃ n : Nat, n ≤ 16 ∧ z = .int .i64 (n : Nat) ∧ K.Holds wr r 22 rs ∧ (∃ qs, K.Holds wr p 53 qs ∧ Hid (qs = strA 17 (partB R n))) ∧ Hid (Below w.heap.size w wr)) (fun z _ => 16 - (intOf z).toNat)
  case atStart => exact ⟨0, by omega, rfl, h3r, ⟨ps, h3, HP0.out.symm⟩, HB⟩
  case round =>
    obtain ⟨n, hn, rfl, hr, ⟨qs, hq, HQ⟩, HBr⟩ := hrel
    by_cases hlt : n < 16
    · have hlti : (n : Int) < 16 := by omega
      have hn0 : (0 : Int) ≤ n := by omega
      have hn17 : (n : Int) < 17 := by omega
      have hcr : wr.cell? ⟨r, n, none⟩ = some (.string (R n)) := by rw [hr.cell n, ← HRS.out]; exact strA_get 16 R n hlt
      have hor := or_any (R n) ⟨#[128]⟩ wr
      have HS : Hid (partB R (n + 1) = fun j => if j = n then orB (R n) ⟨#[128]⟩ else partB R n j) := by
        funext j
        unfold partB
        by_cases e : j = n
        · subst e; rw [if_pos (Nat.lt_succ_self _), if_pos rfl]
        · rw [if_neg e]
          by_cases e2 : j < n
          · rw [if_pos (Nat.lt_succ_of_lt e2), if_pos e2]
          · rw [if_neg (by omega), if_neg e2]
      have hqc : ∀ o, (wr.alloc o).cell? ⟨p, n, none⟩ = some (.string (partB R n n)) := fun o => by
        rw [(hq.alloc o).cell n, HQ.out]; exact strA_get 17 _ n (by omega)
      have hqf : ∀ o, (wr.alloc o).frozen? ⟨p, n, none⟩ = false := fun o => (hq.alloc o).frozen n
      obtain ⟨x, hx⟩ : ∃ x, orB (R n) ⟨#[128]⟩ = x := ⟨_, rfl⟩
      obtain ⟨y, hy⟩ : ∃ y, partB R n n = y := ⟨_, rfl⟩
      obtain ⟨rn, hrn⟩ : ∃ rn, R n = rn := ⟨_, rfl⟩
      rw [hx] at hor HS
      rw [hy] at hqc
      rw [hrn] at hor hcr
      clear hx hy hrn
      go_wp2_with fail
      refine hor.mono ?_
      rintro e w4 ⟨rfl, hw4⟩
      have h4c := hqc (.cells #[.string rn, .string ⟨#[128]⟩] 9)
      have h4f := hqf (.cells #[.string rn, .string ⟨#[128]⟩] 9)
      have h4p := hq.alloc (.cells #[.string rn, .string ⟨#[128]⟩] 9)
      have h4r := hr.alloc (.cells #[.string rn, .string ⟨#[128]⟩] 9)
      have hB4 : Below w.heap.size w (wr.alloc (.cells #[.string rn, .string ⟨#[128]⟩] 9)) := HBr.out.alloc HBr.out.size _
      rw [← hw4] at h4c h4f h4p h4r hB4
      have HB4 : Hid (Below w.heap.size w w4) := hB4
      clear hw4 hqc hqf hor hB4
      go_wp2_with fail
      go_roundw
      case rel =>
        refine ⟨n + 1, by omega, by simp, h4r.other _ _ (by show r ≠ p; omega), ⟨_, h4p.set n (.string x), ?_⟩, ?_⟩
        · show _ = _
          rw [HQ.out, strA_set 17 _ n (by omega), HS.out]
        · exact K.Only.fresh HB4.out ((K.Only.refl p w4).set n (.string x)) HW.out
      case measure => simp [intOf]; omega
    · have hlti : ¬ (n : Int) < 16 := by omega
      have hn16 : n = 16 := by omega
      subst hn16
      have hcells : ∀ (j : Nat) x, ((List.range 17).map (partB R 16))[j]? = some x → wr.cell? ⟨p, 0 + j, none⟩ = some (.string x) := by
        intro j x hj
        rw [List.getElem?_map] at hj
        by_cases hj17 : j < 17
        · rw [List.getElem?_range hj17] at hj
          rw [Nat.zero_add, hq.cell j, HQ.out, strA_get 17 _ j hj17]
          exact congrArg (fun z => some (Value.string z)) (Option.some.inj hj)
        · rw [List.getElem?_eq_none (by simpa using hj17)] at hj
          cases hj
      have hlist := list_any p 0 17 ((List.range 17).map (partB R 16)) wr hcells hq.lt (by simp) (by simp) (by
        refine Nat.le_trans (cat_le 1000000 _ fun x hx => ?_) (by simp)
        obtain ⟨j, _, rfl⟩ := List.mem_map.1 hx
        exact partB_size HR.out (by omega) 16 j (by omega))
      rw [cat_parts R] at hlist
      have e17 : ((List.range 17).map (partB R 16)).length = 17 := by simp
      rw [e17] at hlist
      clear hcells e17
      go_wp2_with fail
      refine hlist.mono ?_
      rintro e w5 ⟨rfl, hB5⟩
      go_wp2_with fail
      go_ret
      exact ⟨rfl, HBr.out.trans (hB5.mono HBr.out.size)⟩
end Go.Proofs.YtjdhdeffiigpbaaDoor
