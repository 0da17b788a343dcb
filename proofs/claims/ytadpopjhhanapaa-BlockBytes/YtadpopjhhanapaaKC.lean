/-
  Texts of this claim, put together.
-/
import Derived.Test.YtadpopjhhanapaaJLittleW
import Derived.Test.YtadpopjhhanapaaJGoneW
/-
  BlockOne: the law's walk.
-/
namespace Go.Proofs.Ytadpopjhhanapaa
open Go Go.RowKit

theorem one_at {w : World} {x : Wr} (hx : WrOk w x) : WritesAt (w.alloc (.cells (wrC x) 38)) (.slice (some ⟨w.heap.size, 0, none⟩) 1 1) [x] := by
  have h := Holds.new w 38 (wrC x)
  refine ⟨fun y hy => ?_, .inr ⟨_, 0, 1, rfl, Nat.le_refl _, fun i y hy => ?_⟩⟩
  · rw [List.mem_singleton.1 hy]; exact hx.below (below_new1 _ _)
  · match i with
    | 0 => simp at hy; subst hy; exact ⟨h.cell 0, h.cell 1, h.cell 2, h.cell 3, h.cell 4, h.cell 5, h.cell 6⟩
    | i + 1 => simp at hy
theorem two_at {w : World} {x y : Wr} (hx : WrOk w x) (hy : WrOk w y) : WritesAt (w.alloc (.cells (wrC x ++ wrC y) 38)) (.slice (some ⟨w.heap.size, 0, none⟩) 2 2) [x, y] := by
  have h := Holds.new w 38 (wrC x ++ wrC y)
  refine ⟨fun z hz => ?_, .inr ⟨_, 0, 2, rfl, Nat.le_refl _, fun i z hz => ?_⟩⟩
  · rcases List.mem_cons.1 hz with rfl | hz
    · exact hx.below (below_new1 _ _)
    · rw [List.mem_singleton.1 hz]; exact hy.below (below_new1 _ _)
  · match i with
    | 0 => simp at hz; subst hz; exact ⟨h.cell 0, h.cell 1, h.cell 2, h.cell 3, h.cell 4, h.cell 5, h.cell 6⟩
    | 1 => simp at hz; subst hz; exact ⟨h.cell 7, h.cell 8, h.cell 9, h.cell 10, h.cell 11, h.cell 12, h.cell 13⟩
    | i + 2 => simp at hz
theorem hd_mono {b n m : Nat} (hm : m < 18446744073709551616) (h : n ≤ m) : (hd b n).length ≤ (hd b m).length := by
  unfold hd
  split
  · split <;> simp
  · rw [if_neg (by omega)]
    have := num_len_mono hm h
    simp; omega
theorem listL_mono {k l : List UInt8} (hl : l.length < 18446744073709551616) (h : k.length ≤ l.length) : (listL k).length ≤ (listL l).length := by
  unfold listL
  have := hd_mono (b := 192) hl h
  rw [List.length_append, List.length_append]
  omega
theorem listL_ge (l : List UInt8) : l.length ≤ (listL l).length := by unfold listL; rw [List.length_append]; omega
theorem num1 : (txtL [numB 1]).length = 1 := by decide
theorem kl_nil {x : ByteArray} (h : x.size = 20) : kl ⟨#[]⟩ x = true := by
  have hx : x.toList ≠ [] := fun e => by
    have h1 : x.toList.length = 20 := by rw [lb, sizeB]; exact h
    rw [e] at h1; cases h1
  unfold kl
  cases hl : x.toList with
  | nil => exact absurd hl hx
  | cons a l => rw [lb]; rfl
theorem okB_one (x : Wr) : okB 1 [x] = true ↔ okW x = true ∧ x.a.size = 20 := by
  unfold okB riseL riseL
  simp only [Bool.and_eq_true, decide_eq_true_eq, List.length_cons, List.length_nil]
  constructor
  · rintro ⟨_, h⟩; exact ⟨h.1.1, h.1.2.1⟩
  · rintro ⟨h1, h2⟩; exact ⟨⟨⟨by omega, by omega⟩, by omega⟩, ⟨h1, h2, kl_nil h2⟩, by first | rfl | trivial⟩
theorem okB_two (x y : Wr) : okB 1 [x, y] = true ↔ okB 1 [x] = true ∧ okB 1 [y] = true ∧ kl x.a y.a = true := by
  rw [okB_one, okB_one]
  unfold okB riseL riseL riseL
  simp only [Bool.and_eq_true, decide_eq_true_eq, List.length_cons, List.length_nil]
  constructor
  · rintro ⟨_, h1, h2, _⟩; exact ⟨⟨h1.1, h1.2.1⟩, ⟨h2.1, h2.2.1⟩, h2.2.2⟩
  · rintro ⟨⟨h1, h2⟩, ⟨h3, h4⟩, h5⟩; exact ⟨⟨⟨by omega, by omega⟩, by omega⟩, ⟨h1, h2, kl_nil h2⟩, ⟨h3, h4, h5⟩, by first | rfl | trivial⟩
theorem enc_one (x : Wr) : encBk 1 [x] = listL (txtL [numB 1] ++ listL (encW x)) := by unfold encBk cat; simp [encWB]
theorem enc_two (x y : Wr) : encBk 1 [x, y] = listL (txtL [numB 1] ++ listL (encW x ++ encW y)) := by unfold encBk cat; simp [encWB]
theorem enc_two_ge {x y : Wr} (hx : SmallW x) (hy : SmallW y) : (encBk 1 [x]).length ≤ (encBk 1 [x, y]).length ∧ (encBk 1 [y]).length ≤ (encBk 1 [x, y]).length := by
  have h1 := encW_len hx
  have h2 := encW_len hy
  have h3 := listL_len (encW x ++ encW y)
  rw [List.length_append] at h3
  have h4 : ∀ z : List UInt8, z.length ≤ (encW x ++ encW y).length → (listL (txtL [numB 1] ++ listL z)).length ≤ (listL (txtL [numB 1] ++ listL (encW x ++ encW y))).length := fun z hz => by
    have h5 := listL_mono (by rw [List.length_append]; omega) hz
    refine listL_mono ?_ ?_
    · rw [List.length_append, num1]; omega
    · rw [List.length_append, List.length_append]; omega
  rw [enc_one, enc_one, enc_two]
  exact ⟨h4 _ (by rw [List.length_append]; omega), h4 _ (by rw [List.length_append]; omega)⟩
theorem enc_two_le (x y : Wr) : (encBk 1 [x, y]).length ≤ (encBk 1 [x]).length + (encBk 1 [y]).length + 30 := by
  rw [enc_one, enc_one, enc_two]
  have h1 := listL_len (txtL [numB 1] ++ listL (encW x ++ encW y))
  have h2 := listL_len (encW x ++ encW y)
  have h3 := listL_ge (txtL [numB 1] ++ listL (encW x))
  have h4 := listL_ge (encW x)
  have h5 := listL_ge (txtL [numB 1] ++ listL (encW y))
  have h6 := listL_ge (encW y)
  rw [List.length_append] at h1 h2 h3 h5
  have := num1
  omega
theorem bytesOf_some {n : Int} {L : List Wr} {s : List UInt8} : bytesOf n L = some s ↔ okB n L = true ∧ (encBk n.toNat L).length ≤ 60000 ∧ s = encBk n.toNat L := by
  unfold bytesOf
  constructor
  · intro h
    split at h
    · next h1 =>
      split at h
      · next h2 => injection h with h; exact ⟨h1, h2, h.symm⟩
      · cases h
    · cases h
  · rintro ⟨h1, h2, rfl⟩
    rw [if_pos h1, if_pos h2]
/-- If both together may be, each may, and the first stands ahead. -/
theorem two_one {x y : Wr} {s : List UInt8} (h : bytesOf 1 [x, y] = some s) : (∃ t, bytesOf 1 [x] = some t) ∧ (∃ t, bytesOf 1 [y] = some t) ∧ kl x.a y.a = true := by
  obtain ⟨h1, h2, _⟩ := bytesOf_some.1 h
  obtain ⟨h3, h4, h5⟩ := (okB_two x y).1 h1
  have hx := (okB_all h3).2.2.2 x (by simp)
  have hy := (okB_all h4).2.2.2 y (by simp)
  obtain ⟨h6, h7⟩ := enc_two_ge hx hy
  have e1 : (1 : Int).toNat = 1 := rfl
  rw [e1] at h2
  exact ⟨⟨_, bytesOf_some.2 ⟨h3, by rw [e1]; omega, rfl⟩⟩, ⟨_, bytesOf_some.2 ⟨h4, by rw [e1]; omega, rfl⟩⟩, h5⟩
theorem one_two {x y : Wr} {s t : List UInt8} (hx : bytesOf 1 [x] = some s) (hy : bytesOf 1 [y] = some t) (hk : kl x.a y.a = true) (hs : s.length < 25000) (ht : t.length < 25000) : ∃ u, bytesOf 1 [x, y] = some u := by
  obtain ⟨h1, h2, rfl⟩ := bytesOf_some.1 hx
  obtain ⟨h3, h4, rfl⟩ := bytesOf_some.1 hy
  have := enc_two_le x y
  have e1 : (1 : Int).toNat = 1 := rfl
  rw [e1] at hs ht
  exact ⟨_, bytesOf_some.2 ⟨(okB_two x y).2 ⟨h1, h3, hk⟩, by rw [e1]; omega, rfl⟩⟩
end Go.Proofs.Ytadpopjhhanapaa
/-
  BlockOne: the law's walk, from end to end.
-/
namespace Go.Proofs.Ytadpopjhhanapaa
open Go Go.RowKit

def strV (o : Option (List UInt8)) : ByteArray := match o with
  | some s => ⟨s.toArray⟩
  | none => ⟨#[]⟩
theorem bytV_eq (o : Option (List UInt8)) : bytV o = .tuple #[.string (strV o), .int .i64 (errV o)] := by cases o <;> rfl
section
variable {ops : Array Oper} {rest : List Oper} {op : Oper} {a : Act} {w : World} {Q : Exit → Act → World → Prop}
theorem run_lssJ (ty : TypeId) (x y : Operand) {u v : ByteArray} (ρ : Operand → Value) (hx : ρ x = .string u) (hy : ρ y = .string v) (ho : op.op = .binOp .lss 9 x y ty) (w : World) : (execOp ρ op).run Try.prog w = .ok (.value (.bool (kl u v))) w := by
  unfold execOp
  simp [ho, hx, hy, go_sem]
  rfl
theorem wpList_lssJ (x y : Operand) (ho : op.op = .binOp .lss 9 x y 9) {u v : ByteArray} (hx : a.eval x = .string u) (hy : a.eval y = .string v) {r : Bool} (hr : kl u v = r) (hw : Region.wanted op (yielded ops a.tmps) = true)
    (h : wpList Try.prog ops Q rest (a.put op.dst (.bool r)) w) : wpList Try.prog ops Q (op :: rest) a w :=
  wpList_step fun _ hK => by
    rw [if_pos hw]
    unfold Oper.wp
    rw [run_lssJ _ x y a.eval hx hy ho w]
    rw [hr]
    exact hK _ _ h
theorem run_lssN (ty : TypeId) (x y : Operand) {u v : Int} (ρ : Operand → Value) (hx : ρ x = .int .i64 u) (hy : ρ y = .int .i64 v) (ho : op.op = .binOp .lss 3 x y ty) (w : World) : (execOp ρ op).run Try.prog w = .ok (.value (.bool (decide (u < v)))) w := by
  unfold execOp
  simp [ho, hx, hy, go_sem]
theorem wpList_lssN (x y : Operand) (ho : op.op = .binOp .lss 3 x y 3) {u v : Int} (hx : a.eval x = .int .i64 u) (hy : a.eval y = .int .i64 v) {r : Bool} (hr : decide (u < v) = r) (hw : Region.wanted op (yielded ops a.tmps) = true)
    (h : wpList Try.prog ops Q rest (a.put op.dst (.bool r)) w) : wpList Try.prog ops Q (op :: rest) a w :=
  wpList_step fun _ hK => by
    rw [if_pos hw]
    unfold Oper.wp
    rw [run_lssN _ x y a.eval hx hy ho w]
    rw [hr]
    exact hK _ _ h
end
set_option maxRecDepth 8000 in
set_option maxHeartbeats 16000000 in
theorem one_walk {w : World} {x y : Wr} (hx : WrOk w x) (hlx : x.L.length ≤ 9223372036854775807) (hy : WrOk w y) (hly : y.L.length ≤ 9223372036854775807) : Calls Try.prog 6 #[wra x, wra y] w fun e w' => e = .returned (.bool true) ∧ Below w.heap.size w w' := by
  obtain ⟨px, nx, cx, hsx⟩ := hx.1.shape3
  obtain ⟨py, ny, cy, hsy⟩ := hy.1.shape3
  obtain ⟨W0, g, hW0, hg, hB0, hh⟩ := box_write w x
  obtain ⟨W1, g1, hW1, hg1, hB1, hk⟩ := box_write W0 y
  have hh1 := hh.below hB1
  have HB : Hid (Below w.heap.size w W1) := below_new hB0 hB1
  have hx1 := (hx.below hB0).below hB1
  have hy1 := (hy.below hB0).below hB1
  have HPX : Hid (∀ W, WrOk W x → ∃ u, True) := fun _ _ => ⟨0, trivial⟩
  clear hB0 hB1 hh hx hy HPX
  have HONEX := fun W (h : WrOk W x) => one_at h
  have HONEY := fun W (h : WrOk W y) => one_at h
  have HTWO := fun W (h : WrOk W x) (k : WrOk W y) => two_at h k
  have HLX := fun W v (h : WritesAt W v [x]) => little_any (n := 1) h (by simp) (fun z hz => by rw [List.mem_singleton.1 hz]; exact hlx)
  have HLY := fun W v (h : WritesAt W v [y]) => little_any (n := 1) h (by simp) (fun z hz => by rw [List.mem_singleton.1 hz]; exact hly)
  have HCX := fun W v (h : WritesAt W v [x]) => kcheck_any (n := 1) h (by simp)
  have HCY := fun W v (h : WritesAt W v [y]) => kcheck_any (n := 1) h (by simp)
  have HC2 := fun W v (h : WritesAt W v [x, y]) => kcheck_any (n := 1) h (by simp)
  have HYX := fun W v (h : WritesAt W v [x]) => kbytes_any (n := 1) h (by simp)
  have HYY := fun W v (h : WritesAt W v [y]) => kbytes_any (n := 1) h (by simp)
  have HP1 : Hid (∀ s, bytesOf 1 [x, y] = some s → (∃ t, bytesOf 1 [x] = some t) ∧ (∃ t, bytesOf 1 [y] = some t) ∧ kl x.a y.a = true) := fun s h => two_one h
  have HP2 : Hid (∀ s t, bytesOf 1 [x] = some s → bytesOf 1 [y] = some t → kl x.a y.a = true → s.length < 25000 → t.length < 25000 → ∃ u, bytesOf 1 [x, y] = some u) := fun s t h1 h2 h3 h4 h5 => one_two h1 h2 h3 h4 h5
  generalize bytesOf 1 [x] = ox at *
  generalize bytesOf 1 [y] = oy at *
  generalize bytesOf 1 [x, y] = oz at *
  simp only [bytV_eq] at HYX HYY
  have HAW := awake_any W1
  obtain ⟨xa, xg, xr, xn, xb, xc, xs, xL⟩ := x
  obtain ⟨ya, yg, yr, yn, yb, yc, ys, yL⟩ := y
  unfold wra wrC at *
  dsimp only at *
  subst hsx hsy
  simp only [List.append_toArray, List.cons_append, List.nil_append] at HTWO
  go_enter Try.func6, Try.ntmps6
  go_wp2_with (first
    | (refine wpList_ldW hkC _ rfl rfl rfl ?_)
    | (refine wpList_ldW hhB _ rfl rfl rfl ?_)
    | (go_at_call 9; refine HAW.mono ?_; rintro e w2 ⟨rfl, hB2⟩; have hhB := hh1.below hB2
       have hkC := ((hk.below hB2).below (below_new1 _ (.cells #[.string xa, .bool xg, .bool xr, .int .u64 (xn : Nat), .string xb, .string xc, .slice px nx cx] 38))).below (below_new1 _ (.cells #[.int .i64 1, .slice (some ⟨w2.heap.size, 0, none⟩) 1 1] 24)))
    | fail)
  obtain ⟨W4, hW4⟩ : ∃ W4, ((((w2.alloc (.cells #[.string xa, .bool xg, .bool xr, .int .u64 (xn : Nat), .string xb, .string xc, .slice px nx cx] 38)).alloc (.cells #[.int .i64 1, .slice (some ⟨w2.heap.size, 0, none⟩) 1 1] 24)).alloc (.cells #[.string ya, .bool yg, .bool yr, .int .u64 (yn : Nat), .string yb, .string yc, .slice py ny cy] 38)).alloc (.cells #[.int .i64 1, .slice (some ⟨w2.heap.size + 1 + 1, 0, none⟩) 1 1] 24)) = W4 := ⟨_, rfl⟩
  have hBa : Below w2.heap.size w2 (w2.alloc (.cells #[.string xa, .bool xg, .bool xr, .int .u64 (xn : Nat), .string xb, .string xc, .slice px nx cx] 38)) := below_new1 _ _
  have hBb : Below (w2.alloc (.cells #[.string xa, .bool xg, .bool xr, .int .u64 (xn : Nat), .string xb, .string xc, .slice px nx cx] 38)).heap.size (w2.alloc (.cells #[.string xa, .bool xg, .bool xr, .int .u64 (xn : Nat), .string xb, .string xc, .slice px nx cx] 38)) ((w2.alloc (.cells #[.string xa, .bool xg, .bool xr, .int .u64 (xn : Nat), .string xb, .string xc, .slice px nx cx] 38)).alloc (.cells #[.int .i64 1, .slice (some ⟨w2.heap.size, 0, none⟩) 1 1] 24)) := below_new1 _ _
  have hBc : Below ((w2.alloc (.cells #[.string xa, .bool xg, .bool xr, .int .u64 (xn : Nat), .string xb, .string xc, .slice px nx cx] 38)).alloc (.cells #[.int .i64 1, .slice (some ⟨w2.heap.size, 0, none⟩) 1 1] 24)).heap.size ((w2.alloc (.cells #[.string xa, .bool xg, .bool xr, .int .u64 (xn : Nat), .string xb, .string xc, .slice px nx cx] 38)).alloc (.cells #[.int .i64 1, .slice (some ⟨w2.heap.size, 0, none⟩) 1 1] 24)) (((w2.alloc (.cells #[.string xa, .bool xg, .bool xr, .int .u64 (xn : Nat), .string xb, .string xc, .slice px nx cx] 38)).alloc (.cells #[.int .i64 1, .slice (some ⟨w2.heap.size, 0, none⟩) 1 1] 24)).alloc (.cells #[.string ya, .bool yg, .bool yr, .int .u64 (yn : Nat), .string yb, .string yc, .slice py ny cy] 38)) := below_new1 _ _
  have hBd : Below (((w2.alloc (.cells #[.string xa, .bool xg, .bool xr, .int .u64 (xn : Nat), .string xb, .string xc, .slice px nx cx] 38)).alloc (.cells #[.int .i64 1, .slice (some ⟨w2.heap.size, 0, none⟩) 1 1] 24)).alloc (.cells #[.string ya, .bool yg, .bool yr, .int .u64 (yn : Nat), .string yb, .string yc, .slice py ny cy] 38)).heap.size (((w2.alloc (.cells #[.string xa, .bool xg, .bool xr, .int .u64 (xn : Nat), .string xb, .string xc, .slice px nx cx] 38)).alloc (.cells #[.int .i64 1, .slice (some ⟨w2.heap.size, 0, none⟩) 1 1] 24)).alloc (.cells #[.string ya, .bool yg, .bool yr, .int .u64 (yn : Nat), .string yb, .string yc, .slice py ny cy] 38)) W4 := by rw [← hW4]; exact below_new1 _ _
  have hBt := below_new hBa (below_new hBb (below_new hBc hBd))
  have v6 := (((HONEX w2 (hx1.below hB2)).below hBb).below hBc).below hBd
  have v7 := (HONEY ((w2.alloc (.cells #[.string xa, .bool xg, .bool xr, .int .u64 (xn : Nat), .string xb, .string xc, .slice px nx cx] 38)).alloc (.cells #[.int .i64 1, .slice (some ⟨w2.heap.size, 0, none⟩) 1 1] 24)) (((hy1.below hB2).below hBa).below hBb)).below hBd
  have f6 := below_holds hBd (below_holds hBc (Holds.new (w2.alloc (.cells #[.string xa, .bool xg, .bool xr, .int .u64 (xn : Nat), .string xb, .string xc, .slice px nx cx] 38)) 24 #[.int .i64 1, .slice (some ⟨w2.heap.size, 0, none⟩) 1 1]))
  have f7 : Holds W4 (((w2.alloc (.cells #[.string xa, .bool xg, .bool xr, .int .u64 (xn : Nat), .string xb, .string xc, .slice px nx cx] 38)).alloc (.cells #[.int .i64 1, .slice (some ⟨w2.heap.size, 0, none⟩) 1 1] 24)).alloc (.cells #[.string ya, .bool yg, .bool yr, .int .u64 (yn : Nat), .string yb, .string yc, .slice py ny cy] 38)).heap.size 24 #[.int .i64 1, .slice (some ⟨w2.heap.size + 1 + 1, 0, none⟩) 1 1] := by rw [← hW4]; exact Holds.new (((w2.alloc (.cells #[.string xa, .bool xg, .bool xr, .int .u64 (xn : Nat), .string xb, .string xc, .slice px nx cx] 38)).alloc (.cells #[.int .i64 1, .slice (some ⟨w2.heap.size, 0, none⟩) 1 1] 24)).alloc (.cells #[.string ya, .bool yg, .bool yr, .int .u64 (yn : Nat), .string yb, .string yc, .slice py ny cy] 38)) _ _
  simp only [World.size_alloc] at v7 f6 f7
  have H4 : Hid (Below w.heap.size w W4 ∧ WritesAt W4 (.slice (some ⟨w2.heap.size, 0, none⟩) 1 1) [⟨xa, xg, xr, xn, xb, xc, .slice px nx cx, xL⟩] ∧ WritesAt W4 (.slice (some ⟨w2.heap.size + 1 + 1, 0, none⟩) 1 1) [⟨ya, yg, yr, yn, yb, yc, .slice py ny cy, yL⟩] ∧ WriteAt W4 g 0 ⟨xa, xg, xr, xn, xb, xc, .slice px nx cx, xL⟩ ∧ WriteAt W4 g1 0 ⟨ya, yg, yr, yn, yb, yc, .slice py ny cy, yL⟩ ∧ WrOk W4 ⟨xa, xg, xr, xn, xb, xc, .slice px nx cx, xL⟩ ∧ WrOk W4 ⟨ya, yg, yr, yn, yb, yc, .slice py ny cy, yL⟩) :=
    ⟨below_new HB.out (below_new hB2 hBt), v6, v7, (hh1.below hB2).below hBt, (hk.below hB2).below hBt, (hx1.below hB2).below hBt, (hy1.below hB2).below hBt⟩
  have HLX' : Hid (∀ W v, WritesAt W v [⟨xa, xg, xr, xn, xb, xc, .slice px nx cx, xL⟩] → Calls Try.prog 10 #[.agg #[.int .i64 1, v]] W fun e w' => LPost [⟨xa, xg, xr, xn, xb, xc, .slice px nx cx, xL⟩] e ∧ Below W.heap.size W w') := HLX
  have HLY' : Hid (∀ W v, WritesAt W v [⟨ya, yg, yr, yn, yb, yc, .slice py ny cy, yL⟩] → Calls Try.prog 10 #[.agg #[.int .i64 1, v]] W fun e w' => LPost [⟨ya, yg, yr, yn, yb, yc, .slice py ny cy, yL⟩] e ∧ Below W.heap.size W w') := HLY
  have HCX' : Hid (∀ W v, WritesAt W v [⟨xa, xg, xr, xn, xb, xc, .slice px nx cx, xL⟩] → Calls Try.prog 16 #[.agg #[.int .i64 1, v]] W fun e w' => e = .returned (.int .i64 (errV ox)) ∧ Below W.heap.size W w') := HCX
  have HCY' : Hid (∀ W v, WritesAt W v [⟨ya, yg, yr, yn, yb, yc, .slice py ny cy, yL⟩] → Calls Try.prog 16 #[.agg #[.int .i64 1, v]] W fun e w' => e = .returned (.int .i64 (errV oy)) ∧ Below W.heap.size W w') := HCY
  have HC2' : Hid (∀ W v, WritesAt W v [⟨xa, xg, xr, xn, xb, xc, .slice px nx cx, xL⟩, ⟨ya, yg, yr, yn, yb, yc, .slice py ny cy, yL⟩] → Calls Try.prog 16 #[.agg #[.int .i64 1, v]] W fun e w' => e = .returned (.int .i64 (errV oz)) ∧ Below W.heap.size W w') := HC2
  have HYX' : Hid (∀ W v, WritesAt W v [⟨xa, xg, xr, xn, xb, xc, .slice px nx cx, xL⟩] → Calls Try.prog 11 #[.agg #[.int .i64 1, v]] W fun e w' => e = .returned (.tuple #[.string (strV ox), .int .i64 (errV ox)]) ∧ Below W.heap.size W w') := HYX
  have HYY' : Hid (∀ W v, WritesAt W v [⟨ya, yg, yr, yn, yb, yc, .slice py ny cy, yL⟩] → Calls Try.prog 11 #[.agg #[.int .i64 1, v]] W fun e w' => e = .returned (.tuple #[.string (strV oy), .int .i64 (errV oy)]) ∧ Below W.heap.size W w') := HYY
  have HTW' : Hid (∀ W : World, WrOk W ⟨xa, xg, xr, xn, xb, xc, .slice px nx cx, xL⟩ → WrOk W ⟨ya, yg, yr, yn, yb, yc, .slice py ny cy, yL⟩ → WritesAt (W.alloc (.cells #[.string xa, .bool xg, .bool xr, .int .u64 (xn : Nat), .string xb, .string xc, .slice px nx cx, .string ya, .bool yg, .bool yr, .int .u64 (yn : Nat), .string yb, .string yc, .slice py ny cy] 38)) (.slice (some ⟨W.heap.size, 0, none⟩) 2 2) [⟨xa, xg, xr, xn, xb, xc, .slice px nx cx, xL⟩, ⟨ya, yg, yr, yn, yb, yc, .slice py ny cy, yL⟩]) := HTWO
  rw [hW4]
  clear hBa hBb hBc hBd hBt v6 v7 hB2 hhB hkC hh1 hk hx1 hy1 HONEX HONEY HTWO HLX HLY HCX HCY HC2 HYX HYY HAW hW0 hW1 hg hg1 hW4 hlx hly
  refine (HLX'.out W4 _ H4.out.2.1).mono ?_
  rintro e w5 ⟨⟨b1, rfl, _⟩, hB5⟩
  have g6 := below_holds hB5 f6
  have g7 := below_holds hB5 f7
  clear f6 f7
  go_wp2_with (refine wpList_loadK _ rfl _ rfl g7 rfl ?_)
  refine (HLY'.out w5 _ (H4.out.2.2.1.below hB5)).mono ?_
  rintro e w6 ⟨⟨b2, rfl, _⟩, hB6⟩
  have H6 : Hid (Below W4.heap.size W4 w6) := below_new hB5 hB6
  cases b1 with
  | false =>
    go_wp2_with fail
    go_ret
    exact ⟨rfl, below_new H4.out.1 H6.out⟩
  | true =>
    cases b2 with
    | false =>
      go_wp2_with fail
      go_ret
      exact ⟨rfl, below_new H4.out.1 H6.out⟩
    | true =>
      have a6 := below_holds hB6 g6
      have a7 := below_holds hB6 g7
      clear g6 g7 hB5 hB6
      go_wp2_with (first
        | (refine wpList_loadK _ rfl _ rfl c7 rfl ?_)
        | (refine wpList_loadK _ rfl _ rfl c6 rfl ?_)
        | (refine wpList_ldW X8 _ rfl rfl rfl ?_)
        | (refine wpList_ldW Y8 _ rfl rfl rfl ?_)
        | (refine wpList_loadK _ rfl _ rfl b7 rfl ?_)
        | (refine wpList_loadK _ rfl _ rfl a6 rfl ?_)
        | (go_at_call 11; have c6' := c6; refine (HYX'.out _ _ (H4.out.2.1.below (below_new H6.out H9))).mono ?_; rintro e w10 ⟨rfl, hB10⟩
           have c7 := below_holds hB10 c7'
           have H10 := below_new H9 hB10
           clear HYX')
        | (go_at_call 16; have X8' := X8; refine (HC2'.out _ _ (HTW'.out _ ok8x ok8y)).mono ?_; rintro e w9 ⟨rfl, hB9⟩
           have c6 := below_holds hB9 (b6.alloc (.cells #[.string xa, .bool xg, .bool xr, .int .u64 (xn : Nat), .string xb, .string xc, .slice px nx cx, .string ya, .bool yg, .bool yr, .int .u64 (yn : Nat), .string yb, .string yc, .slice py ny cy] 38))
           have c7' := below_holds hB9 (b7'.alloc (.cells #[.string xa, .bool xg, .bool xr, .int .u64 (xn : Nat), .string xb, .string xc, .slice px nx cx, .string ya, .bool yg, .bool yr, .int .u64 (yn : Nat), .string yb, .string yc, .slice py ny cy] 38))
           have H9 := below_new H8 (below_new (below_new1 _ (.cells #[.string xa, .bool xg, .bool xr, .int .u64 (xn : Nat), .string xb, .string xc, .slice px nx cx, .string ya, .bool yg, .bool yr, .int .u64 (yn : Nat), .string yb, .string yc, .slice py ny cy] 38)) hB9))
        | (go_at_call 16; have b7c := b7; refine (HCY'.out _ _ (H4.out.2.2.1.below (below_new H6.out H7))).mono ?_; rintro e w8 ⟨rfl, hB8⟩
           have b6 := below_holds hB8 b6'
           have b7' := below_holds hB8 b7
           have H8 := below_new H7 hB8
           have X8 := H4.out.2.2.2.1.below (below_new H6.out H8)
           have Y8 := H4.out.2.2.2.2.1.below (below_new H6.out H8)
           have ok8x := H4.out.2.2.2.2.2.1.below (below_new H6.out H8)
           have ok8y := H4.out.2.2.2.2.2.2.below (below_new H6.out H8))
        | (go_at_call 16; refine (HCX'.out _ _ (H4.out.2.1.below H6.out)).mono ?_; rintro e w7 ⟨rfl, H7⟩
           have b6' := below_holds H7 a6
           have b7 := below_holds H7 a7)
        | fail)
      refine (HYY'.out _ _ (H4.out.2.2.1.below (below_new H6.out H10))).mono ?_
      rintro e w11 ⟨rfl, hB11⟩
      have H11 := below_new H10 hB11
      have HFIN : Hid (Below w.heap.size w w11) := below_new H4.out.1 (below_new H6.out H11)
      have cX := (H4.out.2.2.2.1.below (below_new H6.out H11)).c0
      have cY := (H4.out.2.2.2.2.1.below (below_new H6.out H11)).c0
      dsimp only at cX cY
      clear hB11 H11 H10 H9 H8 H7 hB10 hB9 hB8 c6 c7 c7' b6 b6' b7 b7' a6 a7 X8 Y8 ok8x ok8y H4 H6 HLX' HLY' HCX' HCY' HC2' HYY' HTW'
      cases oz with
      | some u =>
        obtain ⟨⟨s, hs⟩, ⟨t, ht⟩, hk⟩ := HP1.out u rfl
        have HK : Hid (kl xa ya = true) := hk
        subst hs ht
        clear HP1 HP2 hk
        simp only [errV, strV]
        obtain ⟨S, hgS⟩ : ∃ S : ByteArray, (⟨s.toArray⟩ : ByteArray) = S := ⟨_, rfl⟩
        have hzS : S.size = s.length := by rw [← hgS]; rfl
        rw [hgS]
        clear hgS
        by_cases hS : s.length < 25000
        · have HSi : Hid (decide ((S.size : Int) < 25000) = true) := decide_eq_true (by omega)
          have HSx : Hid (s.length < 25000) := hS
          clear hS hzS
          obtain ⟨T, hgT⟩ : ∃ T : ByteArray, (⟨t.toArray⟩ : ByteArray) = T := ⟨_, rfl⟩
          have hzT : T.size = t.length := by rw [← hgT]; rfl
          rw [hgT]
          clear hgT
          by_cases hT : t.length < 25000
          · have HTi : Hid (decide ((T.size : Int) < 25000) = true) := decide_eq_true (by omega)
            have HTx : Hid (t.length < 25000) := hT
            clear hT hzT
            go_wp2_with (first | (refine wpList_lssN (u := (S.size : Int)) _ _ rfl rfl rfl HSi.out rfl ?_) | (refine wpList_lssN (u := (T.size : Int)) _ _ rfl rfl rfl HTi.out rfl ?_) | (refine wpList_lssJ _ _ rfl rfl rfl HK.out rfl ?_) | fail)
            go_ret
            exact ⟨rfl, HFIN.out⟩
          · have HTi : Hid (decide ((T.size : Int) < 25000) = false) := decide_eq_false (by omega)
            clear hT hzT
            go_wp2_with (first | (refine wpList_lssN (u := (S.size : Int)) _ _ rfl rfl rfl HSi.out rfl ?_) | (refine wpList_lssN (u := (T.size : Int)) _ _ rfl rfl rfl HTi.out rfl ?_) | (refine wpList_lssJ _ _ rfl rfl rfl HK.out rfl ?_) | fail)
            go_ret
            exact ⟨rfl, HFIN.out⟩
        · have HSi : Hid (decide ((S.size : Int) < 25000) = false) := decide_eq_false (by omega)
          clear hS hzS
          go_wp2_with (first | (refine wpList_lssN (u := (S.size : Int)) _ _ rfl rfl rfl HSi.out rfl ?_) | (refine wpList_lssN (u := (T.size : Int)) _ _ rfl rfl rfl HTi.out rfl ?_) | (refine wpList_lssJ _ _ rfl rfl rfl HK.out rfl ?_) | fail)
          go_ret
          exact ⟨rfl, HFIN.out⟩
      | none =>
        cases ox with
        | none =>
          cases oy with
          | none =>
            have HK : Hid (True) := trivial
            simp only [errV, strV]
            go_wp2_with (first | (refine wpList_lssN (u := (S.size : Int)) _ _ rfl rfl rfl HSi.out rfl ?_) | (refine wpList_lssN (u := (T.size : Int)) _ _ rfl rfl rfl HTi.out rfl ?_) | fail)
            go_ret
            exact ⟨rfl, HFIN.out⟩
          | some t =>
            simp only [errV, strV]
            obtain ⟨T, hgT⟩ : ∃ T : ByteArray, (⟨t.toArray⟩ : ByteArray) = T := ⟨_, rfl⟩
            have hzT : T.size = t.length := by rw [← hgT]; rfl
            rw [hgT]
            clear hgT
            by_cases hT : t.length < 25000
            · have HTi : Hid (decide ((T.size : Int) < 25000) = true) := decide_eq_true (by omega)
              have HTx : Hid (t.length < 25000) := hT
              clear hT hzT
              go_wp2_with (first | (refine wpList_lssN (u := (S.size : Int)) _ _ rfl rfl rfl HSi.out rfl ?_) | (refine wpList_lssN (u := (T.size : Int)) _ _ rfl rfl rfl HTi.out rfl ?_) | fail)
              go_ret
              exact ⟨rfl, HFIN.out⟩
            · have HTi : Hid (decide ((T.size : Int) < 25000) = false) := decide_eq_false (by omega)
              clear hT hzT
              go_wp2_with (first | (refine wpList_lssN (u := (S.size : Int)) _ _ rfl rfl rfl HSi.out rfl ?_) | (refine wpList_lssN (u := (T.size : Int)) _ _ rfl rfl rfl HTi.out rfl ?_) | fail)
              go_ret
              exact ⟨rfl, HFIN.out⟩
        | some s =>
          cases oy with
          | none =>
            simp only [errV, strV]
            obtain ⟨S, hgS⟩ : ∃ S : ByteArray, (⟨s.toArray⟩ : ByteArray) = S := ⟨_, rfl⟩
            have hzS : S.size = s.length := by rw [← hgS]; rfl
            rw [hgS]
            clear hgS
            by_cases hS : s.length < 25000
            · have HSi : Hid (decide ((S.size : Int) < 25000) = true) := decide_eq_true (by omega)
              have HSx : Hid (s.length < 25000) := hS
              clear hS hzS
              go_wp2_with (first | (refine wpList_lssN (u := (S.size : Int)) _ _ rfl rfl rfl HSi.out rfl ?_) | (refine wpList_lssN (u := (T.size : Int)) _ _ rfl rfl rfl HTi.out rfl ?_) | fail)
              go_ret
              exact ⟨rfl, HFIN.out⟩
            · have HSi : Hid (decide ((S.size : Int) < 25000) = false) := decide_eq_false (by omega)
              clear hS hzS
              go_wp2_with (first | (refine wpList_lssN (u := (S.size : Int)) _ _ rfl rfl rfl HSi.out rfl ?_) | (refine wpList_lssN (u := (T.size : Int)) _ _ rfl rfl rfl HTi.out rfl ?_) | fail)
              go_ret
              exact ⟨rfl, HFIN.out⟩
          | some t =>
            obtain ⟨q, hq⟩ : ∃ q, kl xa ya = q := ⟨_, rfl⟩
            have HK : Hid (kl xa ya = q) := hq
            simp only [errV, strV]
            have HN : Hid (q = true → s.length < 25000 → t.length < 25000 → False) := fun h1 h2 h3 => by
              obtain ⟨u, hu⟩ := HP2.out s t rfl rfl (hq.trans h1) h2 h3
              cases hu
            clear hq HP1 HP2
            cases q with
            | false =>
              obtain ⟨S, hgS⟩ : ∃ S : ByteArray, (⟨s.toArray⟩ : ByteArray) = S := ⟨_, rfl⟩
              have hzS : S.size = s.length := by rw [← hgS]; rfl
              rw [hgS]
              clear hgS
              by_cases hS : s.length < 25000
              · have HSi : Hid (decide ((S.size : Int) < 25000) = true) := decide_eq_true (by omega)
                have HSx : Hid (s.length < 25000) := hS
                clear hS hzS
                obtain ⟨T, hgT⟩ : ∃ T : ByteArray, (⟨t.toArray⟩ : ByteArray) = T := ⟨_, rfl⟩
                have hzT : T.size = t.length := by rw [← hgT]; rfl
                rw [hgT]
                clear hgT
                by_cases hT : t.length < 25000
                · have HTi : Hid (decide ((T.size : Int) < 25000) = true) := decide_eq_true (by omega)
                  have HTx : Hid (t.length < 25000) := hT
                  clear hT hzT
                  go_wp2_with (first | (refine wpList_lssN (u := (S.size : Int)) _ _ rfl rfl rfl HSi.out rfl ?_) | (refine wpList_lssN (u := (T.size : Int)) _ _ rfl rfl rfl HTi.out rfl ?_) | (refine wpList_lssJ _ _ rfl rfl rfl HK.out rfl ?_) | fail)
                  go_ret
                  exact ⟨rfl, HFIN.out⟩
                · have HTi : Hid (decide ((T.size : Int) < 25000) = false) := decide_eq_false (by omega)
                  clear hT hzT
                  go_wp2_with (first | (refine wpList_lssN (u := (S.size : Int)) _ _ rfl rfl rfl HSi.out rfl ?_) | (refine wpList_lssN (u := (T.size : Int)) _ _ rfl rfl rfl HTi.out rfl ?_) | (refine wpList_lssJ _ _ rfl rfl rfl HK.out rfl ?_) | fail)
                  go_ret
                  exact ⟨rfl, HFIN.out⟩
              · have HSi : Hid (decide ((S.size : Int) < 25000) = false) := decide_eq_false (by omega)
                clear hS hzS
                go_wp2_with (first | (refine wpList_lssN (u := (S.size : Int)) _ _ rfl rfl rfl HSi.out rfl ?_) | (refine wpList_lssN (u := (T.size : Int)) _ _ rfl rfl rfl HTi.out rfl ?_) | (refine wpList_lssJ _ _ rfl rfl rfl HK.out rfl ?_) | fail)
                go_ret
                exact ⟨rfl, HFIN.out⟩
            | true =>
              obtain ⟨S, hgS⟩ : ∃ S : ByteArray, (⟨s.toArray⟩ : ByteArray) = S := ⟨_, rfl⟩
              have hzS : S.size = s.length := by rw [← hgS]; rfl
              rw [hgS]
              clear hgS
              by_cases hS : s.length < 25000
              · have HSi : Hid (decide ((S.size : Int) < 25000) = true) := decide_eq_true (by omega)
                have HSx : Hid (s.length < 25000) := hS
                clear hS hzS
                obtain ⟨T, hgT⟩ : ∃ T : ByteArray, (⟨t.toArray⟩ : ByteArray) = T := ⟨_, rfl⟩
                have hzT : T.size = t.length := by rw [← hgT]; rfl
                rw [hgT]
                clear hgT
                by_cases hT : t.length < 25000
                · have HTi : Hid (decide ((T.size : Int) < 25000) = true) := decide_eq_true (by omega)
                  have HTx : Hid (t.length < 25000) := hT
                  clear hT hzT
                  exact absurd HTx.out (fun h => HN.out rfl HSx.out h)
                · have HTi : Hid (decide ((T.size : Int) < 25000) = false) := decide_eq_false (by omega)
                  clear hT hzT
                  go_wp2_with (first | (refine wpList_lssN (u := (S.size : Int)) _ _ rfl rfl rfl HSi.out rfl ?_) | (refine wpList_lssN (u := (T.size : Int)) _ _ rfl rfl rfl HTi.out rfl ?_) | (refine wpList_lssJ _ _ rfl rfl rfl HK.out rfl ?_) | fail)
                  go_ret
                  exact ⟨rfl, HFIN.out⟩
              · have HSi : Hid (decide ((S.size : Int) < 25000) = false) := decide_eq_false (by omega)
                clear hS hzS
                go_wp2_with (first | (refine wpList_lssN (u := (S.size : Int)) _ _ rfl rfl rfl HSi.out rfl ?_) | (refine wpList_lssN (u := (T.size : Int)) _ _ rfl rfl rfl HTi.out rfl ?_) | (refine wpList_lssJ _ _ rfl rfl rfl HK.out rfl ?_) | fail)
                go_ret
                exact ⟨rfl, HFIN.out⟩
end Go.Proofs.Ytadpopjhhanapaa
