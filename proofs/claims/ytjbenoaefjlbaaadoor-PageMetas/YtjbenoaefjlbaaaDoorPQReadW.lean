/-
  What the document's calls of ReadMeta and Newest do.
-/
import Derived.Test.YtjbenoaefjlbaaaDoorPNewW
import Derived.Test.YtjbenoaefjlbaaaDoorPQOpenW
import Derived.Test.YtjbenoaefjlbaaaDoorPCTail
namespace Go.Proofs.YtjbenoaefjlbaaaDoor
open Go Go.RowKit

theorem upTo_small (b : List UInt8) (o : Nat) (h : (b.getD o 0).toNat < 128) : ∀ k, upTo b o (k + 1) < 128 * 256 ^ k
  | 0 => by
    rw [upTo, upTo, Nat.add_zero]
    omega
  | k + 1 => by
    have := upTo_small b o h k
    have h2 := (b.getD (o + (k + 1)) 0).toNat_lt
    rw [upTo, Nat.pow_succ]
    omega
theorem upTo_great (b : List UInt8) (o : Nat) (h : 128 ≤ (b.getD o 0).toNat) : ∀ k, 128 * 256 ^ k ≤ upTo b o (k + 1)
  | 0 => by
    rw [upTo, upTo, Nat.add_zero]
    omega
  | k + 1 => by
    have := upTo_great b o h k
    rw [upTo, Nat.pow_succ]
    omega
theorem num_small (b : List UInt8) (o : Nat) (h : (b.getD o 0).toNat < 128) : numAt b o < 9223372036854775808 := upTo_small b o h 7
theorem num_great (b : List UInt8) (o : Nat) (h : 128 ≤ (b.getD o 0).toNat) : ¬ numAt b o < 9223372036854775808 := by
  have h1 : 9223372036854775808 ≤ numAt b o := upTo_great b o h 7
  omega
/-- Four numbers in memory. -/
def fourA (f : Nat → Nat) : Array Value := #[.int .i64 (f 0), .int .i64 (f 1), .int .i64 (f 2), .int .i64 (f 3)]
theorem fourA_get (f : Nat → Nat) (i : Nat) (h : i < 4) : (fourA f)[i]? = some (.int .i64 (f i)) := by
  have : i = 0 ∨ i = 1 ∨ i = 2 ∨ i = 3 := by omega
  rcases this with rfl | rfl | rfl | rfl <;> rfl
theorem fourA_set (f : Nat → Nat) (i v : Nat) (h : i < 4) : (fourA f).setIfInBounds i (.int .i64 v) = fourA (fun j => if j = i then v else f j) := by
  have : i = 0 ∨ i = 1 ∨ i = 2 ∨ i = 3 := by omega
  rcases this with rfl | rfl | rfl | rfl <;> rfl
theorem fourA_congr {f g : Nat → Nat} (h : ∀ j, j < 4 → f j = g j) : fourA f = fourA g := by
  unfold fourA
  rw [h 0 (by omega), h 1 (by omega), h 2 (by omega), h 3 (by omega)]
/-- What has been read. -/
def seen (b : List UInt8) (i k : Nat) : Nat → Nat := fun j => if j < i then numAt b (8 * j) else if j = i then upTo b (8 * i) k else 0
theorem seen_next (b : List UInt8) (i : Nat) : fourA (seen b i 8) = fourA (seen b (i + 1) 0) := fourA_congr fun j _ => by
  unfold seen numAt
  by_cases h1 : j < i
  · rw [if_pos h1, if_pos (by omega)]
  · by_cases h2 : j = i
    · subst h2
      rw [if_neg (by omega), if_pos rfl, if_pos (by omega)]
    · rw [if_neg h1, if_neg h2, if_neg (by omega)]
      split <;> rfl
theorem seen_step (b : List UInt8) (i k : Nat) (hi : i < 4) : (fourA (seen b i k)).setIfInBounds i (.int .i64 (upTo b (8 * i) (k + 1) : Nat)) = fourA (seen b i (k + 1)) := by
  rw [fourA_set _ _ _ hi]
  refine fourA_congr fun j _ => ?_
  unfold seen
  by_cases h2 : j = i
  · subst h2
    rw [if_pos rfl, if_neg (by omega), if_pos rfl]
  · rw [if_neg h2]
    by_cases h1 : j < i
    · rw [if_pos h1, if_pos h1]
    · rw [if_neg h1, if_neg h1, if_neg h2, if_neg h2]
theorem seen_all (b : List UInt8) : fourA (seen b 4 0) = m4A (m4At b) := rfl
theorem zeroFour : ∀ w, (zeroValue 53).run Tryd.prog w = .ok (.agg #[.int .i64 0, .int .i64 0, .int .i64 0, .int .i64 0]) w := (zero_of_info (n := 4) (by kernel_rfl)).1
set_option maxRecDepth 8000 in
set_option maxHeartbeats 8000000 in
theorem qread_any (p : ByteArray) (w : World) (hp : p.size ≤ 9223372036854775807) :
    Calls Tryd.prog 16 #[.string p] w fun e w' => e = .returned (.tuple #[readM p, readE p]) ∧ Below w.heap.size w w' := by
  have hz := zeroMeta
  have hz4 := zeroFour
  go_enter Tryd.func16, Tryd.ntmps16
  go_wp2_with fail
  refine (qopen_any p _ hp).mono ?_
  rintro e w1 ⟨rfl, hB1⟩
  have hB : Below w.heap.size w w1 := ((Below.refl _ _).alloc (Nat.le_refl _) _).trans (hB1.mono (by rw [World.size_alloc]; omega))
  have hr : Holds w1 w.heap.size 30 (m4A zeroM) := Below.holds hB1 (Holds.new w 30 #[.int .i64 0, .int .i64 0, .int .i64 0, .int .i64 0])
  obtain ⟨g, hg⟩ : ∃ g, g = w.heap.size := ⟨_, rfl⟩
  rw [← hg] at hr ⊢
  have HG : Hid (g = w.heap.size) := hg
  have hgl : w.heap.size ≤ g := by omega
  have hgl1 : g < w1.heap.size := hr.lt
  clear hg hB1
  have HB : Hid (Below w.heap.size w w1) := hB
  have HGL : Hid (w.heap.size ≤ g) := hgl
  have HGL1 : Hid (g < w1.heap.size) := hgl1
  clear hB hgl hgl1
  cases ho : openS p with
  | none =>
    obtain ⟨e1, e2, e3⟩ := open_no ho
    obtain ⟨r1, r2⟩ := read_no (readS_none ho)
    rw [e1, e2, e3]
    have R : Hid (readM p = _ ∧ readE p = _) := ⟨r1, r2⟩
    clear e1 e2 e3 r1 r2
    go_wp2_with (first
      | (refine wpList_storeH rfl 30 _ _ rfl g (m4A zeroM) rfl rfl 30 _ hr infoMeta rfl (m4A_one _) ?_
         intro w3 h3 o3 z3)
      | fail)
    refine bodyPost_ret (results_two (p := 2) (u := 3) rfl _ w3 g 30 _ _ rfl h3 Tryd.underlying30 rfl infoMeta) rfl ⟨?_, ?_⟩
    · rw [R.out.1, R.out.2]; rfl
    · exact Only.fresh HB.out o3 HGL.out
  | some kb =>
    obtain ⟨k, b⟩ := kb
    obtain ⟨e1, e2, e3⟩ := open_yes ho
    obtain ⟨hb13, -, -⟩ := open_some ho
    rw [e1, e2, e3]
    clear e1 e2 e3
    by_cases hk : k = 77 ∧ b.size = 32
    · obtain ⟨rfl, hb⟩ := hk
      have hbi : (b.size : Int) = 32 := by omega
      rw [show oct 77 = 77 from rfl]
      go_wp2_with fail
      have hA := Holds.new w1 53 #[.int .i64 0, .int .i64 0, .int .i64 0, .int .i64 0]
      have hr2 := hr.alloc (.cells #[.int .i64 0, .int .i64 0, .int .i64 0, .int .i64 0] 53)
      have hB2 := HB.out.alloc HB.out.size (.cells #[.int .i64 0, .int .i64 0, .int .i64 0, .int .i64 0] 53)
      obtain ⟨a, ha⟩ : ∃ a, a = w1.heap.size := ⟨_, rfl⟩
      have hag : g < a := by rw [ha]; exact HGL1.out
      rw [← ha] at hA ⊢
      generalize w1.alloc (.cells #[.int .i64 0, .int .i64 0, .int .i64 0, .int .i64 0] 53) = w2 at hA hr2 hB2 ⊢
      have hwa : w.heap.size ≤ a := by have := HB.out.size; omega
      clear ha hr
      have HAG : Hid (g < a ∧ w.heap.size ≤ a) := ⟨hag, hwa⟩
      have F0 : Hid (Holds w2 a 53 (fourA (seen b.data.toList 0 0)) ∧ Holds w2 g 30 (m4A zeroM) ∧ Below w.heap.size w w2) := ⟨hA, hr2, hB2⟩
      clear hag hwa hA hr2 hB2
      go_loopw [8] (fun zv wr => ∃ i : Nat, i ≤ 4 ∧ zv = .int .i64 (i : Nat) ∧ Holds wr a 53 (fourA (seen b.data.toList i 0)) ∧ Holds wr g 30 (m4A zeroM) ∧ Below w.heap.size w wr ∧ ∀ j, j < i → numAt b.data.toList (8 * j) < 9223372036854775808) (fun zv _ => 4 - (intOf zv).toNat)
      case atStart => exact ⟨0, by omega, rfl, F0.out.1, F0.out.2.1, F0.out.2.2, fun j hj => absurd hj (by omega)⟩
      case round =>
        clear F0
        obtain ⟨i, hi, rfl, h1, h2, hB, hall⟩ := hrel
        have HALL : Hid (∀ j, j < i → numAt b.data.toList (8 * j) < 9223372036854775808) := hall
        clear hall
        by_cases hlt : i < 4
        · have hii : (i : Int) < 4 := by omega
          obtain ⟨o, hoo⟩ : ∃ o, o = 8 * i := ⟨_, rfl⟩
          have hoi : (8 : Int) * (i : Int) = (o : Int) := by omega
          have hob : o + 8 ≤ b.size := by omega
          have hobi : (o : Int) < 32 := by omega
          have hob2 : o < b.size := by omega
          have HO : Hid (o = 8 * i) := hoo
          have hby : b[o]'hob2 = b.data.toList.getD o 0 := getD_get b o hob2
          clear hoo
          by_cases hgt : 128 ≤ (b.data.toList.getD o 0).toNat
          · have hgi : (127 : Int) < ((b[o]'hob2).toNat : Int) := by rw [hby]; omega
            have R : Hid (readM p = _ ∧ readE p = _) := read_no (readS_no ho fun q => by
              have hg8 := num_great _ _ hgt
              obtain ⟨s1, s2, s3, s4⟩ := q.2.2
              have hc : i = 0 ∨ i = 1 ∨ i = 2 ∨ i = 3 := by omega
              have ho := HO.out
              rcases hc with rfl | rfl | rfl | rfl <;> subst ho
              · exact hg8 s1
              · exact hg8 s2
              · exact hg8 s3
              · exact hg8 s4)
            clear hby hgt
            go_wp2_with (first
              | (refine wpList_storeH rfl 30 _ _ rfl g (m4A zeroM) rfl rfl 30 _ h2 infoMeta rfl (m4A_one _) ?_
                 intro w3 h3 o3 z3)
              | fail)
            refine bodyPost_ret (results_two (p := 2) (u := 3) rfl _ w3 g 30 _ _ rfl h3 Tryd.underlying30 rfl infoMeta) rfl ⟨?_, ?_⟩
            · rw [R.out.1, R.out.2]; rfl
            · exact Only.fresh hB o3 HGL.out
          · have hgi : ¬ (127 : Int) < ((b[o]'hob2).toNat : Int) := by rw [hby]; omega
            have HSM : Hid ((b.data.toList.getD o 0).toNat < 128) := by unfold Hid; omega
            clear hby hgt
            have F : Hid (Holds wr a 53 (fourA (seen b.data.toList i 0)) ∧ Holds wr g 30 (m4A zeroM) ∧ Below w.heap.size w wr) := ⟨h1, h2, hB⟩
            clear h1 h2 hB
            go_wp2_with fail
            go_loopw [9] (fun zv wr => ∃ k : Nat, k ≤ 8 ∧ zv = .int .i64 (k : Nat) ∧ Holds wr a 53 (fourA (seen b.data.toList i k)) ∧ Holds wr g 30 (m4A zeroM) ∧ Below w.heap.size w wr) (fun zv _ => 8 - (intOf zv).toNat)
            case atStart => exact ⟨0, by omega, rfl, F.out.1, F.out.2.1, F.out.2.2⟩
            case round =>
              clear F
              obtain ⟨k, hk, rfl, h1, h2, hB⟩ := hrel
              by_cases hkl : k < 8
              · have hki : (k : Int) < 8 := by omega
                obtain ⟨x, hx⟩ : ∃ x, x = upTo b.data.toList o k := ⟨_, rfl⟩
                obtain ⟨q, hq⟩ : ∃ q, q = o + k := ⟨_, rfl⟩
                have hqb : q < b.size := by omega
                have hqi : (o : Int) + (k : Int) = (q : Int) := by omega
                have hqi2 : (q : Int) < 32 := by omega
                obtain ⟨y, hy⟩ : ∃ y : Nat, y = (b[q]'hqb).toNat := ⟨_, rfl⟩
                have hyl : y < 256 := by rw [hy]; exact (b[q]'hqb).toNat_lt
                have hup : upTo b.data.toList o (k + 1) = x * 256 + y := by
                  rw [upTo, ← hx, hy, getD_get b q hqb, hq]
                have hxl : x * 256 + y < 9223372036854775808 := by
                  rw [← hup]
                  have h1 := upTo_small _ _ HSM.out k
                  have h2 : 256 ^ k ≤ 256 ^ 7 := Nat.pow_le_pow_right (by omega) (by omega)
                  have h3 : 128 * 256 ^ 7 = 9223372036854775808 := by decide
                  omega
                have hc : wr.cell? ⟨a, i, none⟩ = some (.int .i64 (x : Nat)) := by
                  rw [h1.cell, fourA_get _ _ hlt]
                  unfold seen
                  rw [if_neg (by omega), if_pos rfl, hx, HO.out]
                have hf : wr.frozen? ⟨a, i, none⟩ = false := h1.frozen i
                have hc' : ∀ W, W = wr.drew → W.cell? ⟨a, i, none⟩ = some (.int .i64 (x : Nat)) := fun W hW => by rw [hW]; exact hc
                obtain ⟨z, hzz⟩ : ∃ z, z = x * 256 + y := ⟨_, rfl⟩
                have w1 : IntKind.i64.wrap ((x : Int) * 256) = (x : Int) * 256 := by rw [IntKind.wrap_i64]; omega
                have w2 : IntKind.i64.wrap ((x : Int) * 256 + (y : Int)) = (z : Int) := by rw [IntKind.wrap_i64]; omega
                have w3 : IntKind.i64.wrap (y : Int) = (y : Int) := by rw [IntKind.wrap_i64]; omega
                have w4 : IntKind.i64.wrap (o : Int) = (o : Int) := by rw [IntKind.wrap_i64]; omega
                have w5 : IntKind.i64.wrap (q : Int) = (q : Int) := by rw [IntKind.wrap_i64]; omega
                have hst : Holds (wr.drew.setCell ⟨a, i, none⟩ (.int .i64 (z : Nat))) a 53 (fourA (seen b.data.toList i (k + 1))) := by
                  have := (Holds.drewN h1 1).set i (.int .i64 (z : Nat))
                  rw [← seen_step b.data.toList i k hlt, ← HO.out, hup, ← hzz]
                  exact this
                have HZ : Hid (Holds (wr.drew.setCell ⟨a, i, none⟩ (.int .i64 (z : Nat))) a 53 (fourA (seen b.data.toList i (k + 1)))) := hst
                have hii0 : (0 : Int) ≤ (i : Int) := by omega
                clear hst hup hx hq hzz hxl
                go_wp2_with fail
                have HY : Hid (y = (b[q]'hqb).toNat) := hy
                have hyi : (y : Int) ≤ 255 := by omega
                clear hy hc
                refine wp_region_ctail (fun W => W = wr.drew) 13 mixedP (by kernel_rfl) rfl ?_
                simp only [List.take_succ_cons, List.take_zero, List.drop_succ_cons, List.drop_zero]
                refine cq_val rfl (.int .i64 (i : Nat)) (fun w5 h5 => by go_simp) ?_
                simp only [Act.put, List.setIfInBounds_toArray, List.set_cons_succ, List.set_cons_zero]
                refine cq_val rfl (.int .i64 (i : Nat)) (fun w5 h5 => by go_simp) ?_
                simp only [Act.put, List.setIfInBounds_toArray, List.set_cons_succ, List.set_cons_zero]
                refine cq_val rfl (.pointer (some ⟨a, i, none⟩)) (fun w5 h5 => by go_simp) ?_
                simp only [Act.put, List.setIfInBounds_toArray, List.set_cons_succ, List.set_cons_zero]
                refine cq_val rfl (.int .i64 (x : Nat)) (fun w5 h5 => by have hc := hc' w5 h5; go_simp) ?_
                simp only [Act.put, List.setIfInBounds_toArray, List.set_cons_succ, List.set_cons_zero]
                refine cq_val rfl (.int .i64 ((x : Int) * 256)) (fun w5 h5 => by go_simp) ?_
                simp only [Act.put, List.setIfInBounds_toArray, List.set_cons_succ, List.set_cons_zero]
                refine cq_val rfl (.string b) (fun w5 h5 => by go_simp) ?_
                simp only [Act.put, List.setIfInBounds_toArray, List.set_cons_succ, List.set_cons_zero]
                refine cq_val rfl (.int .i64 (i : Nat)) (fun w5 h5 => by go_simp) ?_
                simp only [Act.put, List.setIfInBounds_toArray, List.set_cons_succ, List.set_cons_zero]
                refine cq_val rfl (.int .i64 (o : Nat)) (fun w5 h5 => by go_simp) ?_
                simp only [Act.put, List.setIfInBounds_toArray, List.set_cons_succ, List.set_cons_zero]
                refine cq_val rfl (.int .i64 (k : Nat)) (fun w5 h5 => by go_simp) ?_
                simp only [Act.put, List.setIfInBounds_toArray, List.set_cons_succ, List.set_cons_zero]
                refine cq_val rfl (.int .i64 (q : Nat)) (fun w5 h5 => by go_simp) ?_
                simp only [Act.put, List.setIfInBounds_toArray, List.set_cons_succ, List.set_cons_zero]
                refine cq_val rfl (.int .u8 (y : Nat)) (fun w5 h5 => by have hy := HY.out; go_simp) ?_
                simp only [Act.put, List.setIfInBounds_toArray, List.set_cons_succ, List.set_cons_zero]
                refine cq_val rfl (.int .i64 (y : Nat)) (fun w5 h5 => by go_simp) ?_
                simp only [Act.put, List.setIfInBounds_toArray, List.set_cons_succ, List.set_cons_zero]
                refine cq_val rfl (.int .i64 (z : Nat)) (fun w5 h5 => by go_simp) ?_
                simp only [Act.put, List.setIfInBounds_toArray, List.set_cons_succ, List.set_cons_zero]
                refine wpQuiet_nil ?_
                intro w5 h5
                subst h5
                have hcc := hc' _ rfl
                have hff : wr.drew.frozen? ⟨a, i, none⟩ = false := hf
                clear hc'
                go_wp2_with fail
                have hB' : Below w.heap.size w (wr.setCell ⟨a, i, none⟩ (.int .i64 (z : Nat))) := Only.fresh hB ((Only.refl a wr).set i _) HAG.out.2
                exact ⟨⟨k + 1, by omega, by go_num, HZ.out, h2.other ⟨a, i, none⟩ _ (by have := HAG.out.1; show g ≠ a; omega), hB'.drew⟩, by simp [intOf]; omega⟩
              · have hki : ¬ (k : Int) < 8 := by omega
                obtain rfl : k = 8 := by omega
                rw [seen_next] at h1
                have F : Hid (Holds wr a 53 (fourA (seen b.data.toList (i + 1) 0)) ∧ Holds wr g 30 (m4A zeroM) ∧ Below w.heap.size w wr) := ⟨h1, h2, hB⟩
                clear h1 h2 hB
                go_wp2_with fail
                refine ⟨⟨i + 1, by omega, by go_num, F.out.1, F.out.2.1, F.out.2.2, fun j hj => ?_⟩, by simp [intOf]; omega⟩
                by_cases hji : j < i
                · exact HALL.out j hji
                · obtain rfl : j = i := by omega
                  rw [← HO.out]
                  exact num_small _ _ HSM.out
        · have hii : ¬ (i : Int) < 4 := by omega
          obtain rfl : i = 4 := by omega
          have RR : Hid (readM p = _ ∧ readE p = _) := read_yes (readS_of ho rfl hb ⟨HALL.out 0 (by omega), HALL.out 1 (by omega), HALL.out 2 (by omega), HALL.out 3 (by omega)⟩)
          rw [seen_all] at h1
          obtain ⟨m, hmm⟩ : ∃ m, m = m4At b.data.toList := ⟨_, rfl⟩
          rw [← hmm] at h1 RR
          have c0 : wr.cell? ⟨a, 0, none⟩ = some (.int .i64 m.tx) := h1.cell 0
          have c1 : wr.cell? ⟨a, 1, none⟩ = some (.int .i64 m.root) := h1.cell 1
          have c2 : wr.cell? ⟨a, 2, none⟩ = some (.int .i64 m.ents) := h1.cell 2
          have c3 : wr.cell? ⟨a, 3, none⟩ = some (.int .i64 m.pgs) := h1.cell 3
          have hone := m4A_one m
          clear hmm h1
          go_wp2_with (first
            | (refine wpList_storeH rfl 30 _ _ rfl g #[.int .i64 m.tx, .int .i64 m.root, .int .i64 m.ents, .int .i64 m.pgs] rfl rfl 30 _ h2 infoMeta rfl hone ?_
               intro w3 h3 o3 z3)
            | fail)
          refine bodyPost_ret (results_two (p := 2) (u := 3) rfl _ w3 g 30 _ _ rfl h3 Tryd.underlying30 rfl infoMeta) rfl ⟨?_, ?_⟩
          · rw [RR.out.1, RR.out.2]; rfl
          · exact Only.fresh hB o3 HGL.out
    · have R : Hid (readM p = _ ∧ readE p = _) := read_no (readS_no ho fun q => hk ⟨q.1, q.2.1⟩)
      by_cases hk7 : k = 77
      · subst hk7
        have hb : ¬ (b.size : Int) = 32 := fun q => hk ⟨rfl, by omega⟩
        clear hk
        rw [show oct 77 = 77 from rfl]
        go_wp2_with (first
          | (refine wpList_storeH rfl 30 _ _ rfl g (m4A zeroM) rfl rfl 30 _ hr infoMeta rfl (m4A_one _) ?_
             intro w3 h3 o3 z3)
          | fail)
        refine bodyPost_ret (results_two (p := 2) (u := 3) rfl _ w3 g 30 _ _ rfl h3 Tryd.underlying30 rfl infoMeta) rfl ⟨?_, ?_⟩
        · rw [R.out.1, R.out.2]; rfl
        · exact Only.fresh HB.out o3 HGL.out
      · have hk7i : ¬ oct k = 77 := fun q => hk7 (oct_inj q)
        clear hk
        go_wp2_with (first
          | (refine wpList_storeH rfl 30 _ _ rfl g (m4A zeroM) rfl rfl 30 _ hr infoMeta rfl (m4A_one _) ?_
             intro w3 h3 o3 z3)
          | fail)
        refine bodyPost_ret (results_two (p := 2) (u := 3) rfl _ w3 g 30 _ _ rfl h3 Tryd.underlying30 rfl infoMeta) rfl ⟨?_, ?_⟩
        · rw [R.out.1, R.out.2]; rfl
        · exact Only.fresh HB.out o3 HGL.out
theorem qnew_two {a b : ByteArray} {m n : M4} (ha : readS a = some m) (hb : readS b = some n) : newS a b = if m.tx < n.tx then some (n, 1) else some (m, 0) := by
  unfold newS
  rw [ha, hb]
theorem qnew_left {a b : ByteArray} {m : M4} (ha : readS a = some m) (hb : readS b = none) : newS a b = some (m, 0) := by
  unfold newS
  rw [ha, hb]
theorem qnew_right {a b : ByteArray} {n : M4} (ha : readS a = none) (hb : readS b = some n) : newS a b = some (n, 1) := by
  unfold newS
  rw [ha, hb]
theorem qnew_none {a b : ByteArray} (ha : readS a = none) (hb : readS b = none) : newS a b = none := by
  unfold newS
  rw [ha, hb]
set_option maxRecDepth 8000 in
set_option maxHeartbeats 8000000 in
theorem qnewest_any (p q : ByteArray) (w : World) (hp : p.size ≤ 9223372036854775807) (hq : q.size ≤ 9223372036854775807) :
    Calls Tryd.prog 18 #[.string p, .string q] w fun e w' => e = .returned (.tuple #[.agg (m4A (newM (newS p q))), .int .i64 (newA (newS p q) : Nat), .int .i64 (newE (newS p q))]) ∧ Below w.heap.size w w' := by
  have hz := zeroMeta
  have h0 := Holds.new w 30 #[.int .i64 0, .int .i64 0, .int .i64 0, .int .i64 0]
  have hB0 := (Below.refl w.heap.size w).alloc (Nat.le_refl _) (.cells #[.int .i64 0, .int .i64 0, .int .i64 0, .int .i64 0] 30)
  obtain ⟨g, hg⟩ : ∃ g, g = w.heap.size := ⟨_, rfl⟩
  rw [← hg] at h0
  have HG : Hid (g = w.heap.size) := hg
  clear hg
  go_enter Tryd.func18, Tryd.ntmps18
  go_wp2_with fail
  rw [← HG.out]
  generalize w.alloc (.cells #[.int .i64 0, .int .i64 0, .int .i64 0, .int .i64 0] 30) = w1 at h0 hB0 ⊢
  refine (qread_any p _ hp).mono ?_
  rintro e w2 ⟨rfl, hB2'⟩
  have hB2 := hB0.trans (hB2'.mono hB0.size)
  have h2 := Below.holds hB2' h0
  clear hB2' hB0 h0
  cases hr : readS p with
  | some m =>
    cases hr2 : readS q with
    | some n =>
      obtain ⟨r1, r2⟩ := read_yes hr
      rw [r1, r2, show m4A m = #[.int .i64 m.tx, .int .i64 m.root, .int .i64 m.ents, .int .i64 m.pgs] from rfl]
      clear r1 r2
      have h3 := h2.alloc (.cells #[.int .i64 m.tx, .int .i64 m.root, .int .i64 m.ents, .int .i64 m.pgs] 30)
      have a3 := Holds.new w2 30 #[.int .i64 m.tx, .int .i64 m.root, .int .i64 m.ents, .int .i64 m.pgs]
      have hB3 := hB2.alloc hB2.size (.cells #[.int .i64 m.tx, .int .i64 m.root, .int .i64 m.ents, .int .i64 m.pgs] 30)
      obtain ⟨a, ha⟩ : ∃ a, a = w2.heap.size := ⟨_, rfl⟩
      go_wp2_with fail
      rw [← ha] at a3 ⊢
      have hga : g < a := by rw [ha]; exact h2.lt
      generalize w2.alloc (.cells #[.int .i64 m.tx, .int .i64 m.root, .int .i64 m.ents, .int .i64 m.pgs] 30) = w3 at h3 a3 hB3 ⊢
      clear ha hB2 h2
      refine (qread_any q _ hq).mono ?_
      rintro e w4 ⟨rfl, hB4'⟩
      have hB4 := hB3.trans (hB4'.mono hB3.size)
      have h4 := Below.holds hB4' h3
      have a4 := Below.holds hB4' a3
      clear hB4' hB3 h3 a3
      obtain ⟨r1, r2⟩ := read_yes hr2
      rw [r1, r2, show m4A n = #[.int .i64 n.tx, .int .i64 n.root, .int .i64 n.ents, .int .i64 n.pgs] from rfl]
      clear r1 r2
      have h5 := h4.alloc (.cells #[.int .i64 n.tx, .int .i64 n.root, .int .i64 n.ents, .int .i64 n.pgs] 30)
      have a5 := a4.alloc (.cells #[.int .i64 n.tx, .int .i64 n.root, .int .i64 n.ents, .int .i64 n.pgs] 30)
      have b5 := Holds.new w4 30 #[.int .i64 n.tx, .int .i64 n.root, .int .i64 n.ents, .int .i64 n.pgs]
      have hB5 := hB4.alloc hB4.size (.cells #[.int .i64 n.tx, .int .i64 n.root, .int .i64 n.ents, .int .i64 n.pgs] 30)
      obtain ⟨b, hb⟩ : ∃ b, b = w4.heap.size := ⟨_, rfl⟩
      rw [← hb] at b5
      have HQ5 : Hid (b = w4.heap.size) := hb
      have F5 : Hid (Holds _ g 30 #[.int .i64 0, .int .i64 0, .int .i64 0, .int .i64 0] ∧ Holds _ a 30 #[.int .i64 m.tx, .int .i64 m.root, .int .i64 m.ents, .int .i64 m.pgs] ∧ Holds _ b 30 #[.int .i64 n.tx, .int .i64 n.root, .int .i64 n.ents, .int .i64 n.pgs] ∧ Below w.heap.size w _) := ⟨h5, a5, b5, hB5⟩
      have c1 : (w4.alloc (.cells #[.int .i64 n.tx, .int .i64 n.root, .int .i64 n.ents, .int .i64 n.pgs] 30)).cell? ⟨a, 0, none⟩ = some (.int .i64 m.tx) := a5.cell 0
      have c2 : (w4.alloc (.cells #[.int .i64 n.tx, .int .i64 n.root, .int .i64 n.ents, .int .i64 n.pgs] 30)).cell? ⟨b, 0, none⟩ = some (.int .i64 n.tx) := b5.cell 0
      clear h4 a4 hB4 h5 a5 b5 hB5 hb
      dsimp only
      by_cases hgt : m.tx < n.tx
      · have hgi : (m.tx : Int) < n.tx := by omega
        have hnew : newS p q = some (n, 1) := (qnew_two hr hr2).trans (if_pos hgt)
        have HN : Hid (newS p q = some (n, 1)) := hnew
        clear hnew
        go_wp2_with (first
          | (refine wpList_loadG rfl 30 (.tmp 9) rfl b rfl 30 _ _ F5.out.2.2.1 Tryd.underlying30 rfl infoMeta ?_)
          | (refine wpList_storeH rfl 30 _ _ rfl g #[.int .i64 n.tx, .int .i64 n.root, .int .i64 n.ents, .int .i64 n.pgs] rfl rfl 30 _ F5.out.1 infoMeta rfl (m4A_one n) ?_
             intro w7 h7 o7 z7)
          | fail)
        refine bodyPost_ret (results_three (p := 4) (u := 5) (v := 6) rfl _ w7 g 30 _ _ rfl h7 Tryd.underlying30 rfl infoMeta) rfl ⟨?_, ?_⟩
        · rw [HN.out]; rfl
        · exact Only.fresh F5.out.2.2.2 o7 (by have := HG.out; omega)
      · have hgi : ¬ (m.tx : Int) < n.tx := by omega
        have hnew : newS p q = some (m, 0) := (qnew_two hr hr2).trans (if_neg hgt)
        have HN : Hid (newS p q = some (m, 0)) := hnew
        clear hnew
        go_wp2_with (first
          | (refine wpList_loadG rfl 30 (.tmp 7) rfl a rfl 30 _ _ F5.out.2.1 Tryd.underlying30 rfl infoMeta ?_)
          | (refine wpList_storeH rfl 30 _ _ rfl g #[.int .i64 m.tx, .int .i64 m.root, .int .i64 m.ents, .int .i64 m.pgs] rfl rfl 30 _ F5.out.1 infoMeta rfl (m4A_one m) ?_
             intro w7 h7 o7 z7)
          | fail)
        refine bodyPost_ret (results_three (p := 4) (u := 5) (v := 6) rfl _ w7 g 30 _ _ rfl h7 Tryd.underlying30 rfl infoMeta) rfl ⟨?_, ?_⟩
        · rw [HN.out]; rfl
        · exact Only.fresh F5.out.2.2.2 o7 (by have := HG.out; omega)
    | none =>
      obtain ⟨r1, r2⟩ := read_yes hr
      rw [r1, r2, show m4A m = #[.int .i64 m.tx, .int .i64 m.root, .int .i64 m.ents, .int .i64 m.pgs] from rfl]
      clear r1 r2
      have h3 := h2.alloc (.cells #[.int .i64 m.tx, .int .i64 m.root, .int .i64 m.ents, .int .i64 m.pgs] 30)
      have a3 := Holds.new w2 30 #[.int .i64 m.tx, .int .i64 m.root, .int .i64 m.ents, .int .i64 m.pgs]
      have hB3 := hB2.alloc hB2.size (.cells #[.int .i64 m.tx, .int .i64 m.root, .int .i64 m.ents, .int .i64 m.pgs] 30)
      obtain ⟨a, ha⟩ : ∃ a, a = w2.heap.size := ⟨_, rfl⟩
      go_wp2_with fail
      rw [← ha] at a3 ⊢
      have hga : g < a := by rw [ha]; exact h2.lt
      generalize w2.alloc (.cells #[.int .i64 m.tx, .int .i64 m.root, .int .i64 m.ents, .int .i64 m.pgs] 30) = w3 at h3 a3 hB3 ⊢
      clear ha hB2 h2
      refine (qread_any q _ hq).mono ?_
      rintro e w4 ⟨rfl, hB4'⟩
      have hB4 := hB3.trans (hB4'.mono hB3.size)
      have h4 := Below.holds hB4' h3
      have a4 := Below.holds hB4' a3
      clear hB4' hB3 h3 a3
      obtain ⟨r1, r2⟩ := read_no hr2
      rw [r1, r2]
      clear r1 r2
      have h5 := h4.alloc (.cells #[.int .i64 0, .int .i64 0, .int .i64 0, .int .i64 0] 30)
      have a5 := a4.alloc (.cells #[.int .i64 0, .int .i64 0, .int .i64 0, .int .i64 0] 30)
      have b5 := Holds.new w4 30 #[.int .i64 0, .int .i64 0, .int .i64 0, .int .i64 0]
      have hB5 := hB4.alloc hB4.size (.cells #[.int .i64 0, .int .i64 0, .int .i64 0, .int .i64 0] 30)
      obtain ⟨b, hb⟩ : ∃ b, b = w4.heap.size := ⟨_, rfl⟩
      rw [← hb] at b5
      have HQ5 : Hid (b = w4.heap.size) := hb
      have F5 : Hid (Holds _ g 30 #[.int .i64 0, .int .i64 0, .int .i64 0, .int .i64 0] ∧ Holds _ a 30 #[.int .i64 m.tx, .int .i64 m.root, .int .i64 m.ents, .int .i64 m.pgs] ∧ Holds _ b 30 #[.int .i64 0, .int .i64 0, .int .i64 0, .int .i64 0] ∧ Below w.heap.size w _) := ⟨h5, a5, b5, hB5⟩
      have c1 : (w4.alloc (.cells #[.int .i64 0, .int .i64 0, .int .i64 0, .int .i64 0] 30)).cell? ⟨a, 0, none⟩ = some (.int .i64 m.tx) := a5.cell 0
      have c2 : (w4.alloc (.cells #[.int .i64 0, .int .i64 0, .int .i64 0, .int .i64 0] 30)).cell? ⟨b, 0, none⟩ = some (.int .i64 0) := b5.cell 0
      clear h4 a4 hB4 h5 a5 b5 hB5 hb
      dsimp only
      have hnew : newS p q = some (m, 0) := qnew_left hr hr2
      have HN : Hid (newS p q = some (m, 0)) := hnew
      clear hnew
      go_wp2_with (first
        | (refine wpList_loadG rfl 30 (.tmp 7) rfl a rfl 30 _ _ F5.out.2.1 Tryd.underlying30 rfl infoMeta ?_)
        | (refine wpList_storeH rfl 30 _ _ rfl g #[.int .i64 m.tx, .int .i64 m.root, .int .i64 m.ents, .int .i64 m.pgs] rfl rfl 30 _ F5.out.1 infoMeta rfl (m4A_one m) ?_
           intro w7 h7 o7 z7)
        | fail)
      refine bodyPost_ret (results_three (p := 4) (u := 5) (v := 6) rfl _ w7 g 30 _ _ rfl h7 Tryd.underlying30 rfl infoMeta) rfl ⟨?_, ?_⟩
      · rw [HN.out]; rfl
      · exact Only.fresh F5.out.2.2.2 o7 (by have := HG.out; omega)
  | none =>
    cases hr2 : readS q with
    | some n =>
      obtain ⟨r1, r2⟩ := read_no hr
      rw [r1, r2]
      clear r1 r2
      have h3 := h2.alloc (.cells #[.int .i64 0, .int .i64 0, .int .i64 0, .int .i64 0] 30)
      have a3 := Holds.new w2 30 #[.int .i64 0, .int .i64 0, .int .i64 0, .int .i64 0]
      have hB3 := hB2.alloc hB2.size (.cells #[.int .i64 0, .int .i64 0, .int .i64 0, .int .i64 0] 30)
      obtain ⟨a, ha⟩ : ∃ a, a = w2.heap.size := ⟨_, rfl⟩
      go_wp2_with fail
      rw [← ha] at a3 ⊢
      have hga : g < a := by rw [ha]; exact h2.lt
      generalize w2.alloc (.cells #[.int .i64 0, .int .i64 0, .int .i64 0, .int .i64 0] 30) = w3 at h3 a3 hB3 ⊢
      clear ha hB2 h2
      refine (qread_any q _ hq).mono ?_
      rintro e w4 ⟨rfl, hB4'⟩
      have hB4 := hB3.trans (hB4'.mono hB3.size)
      have h4 := Below.holds hB4' h3
      have a4 := Below.holds hB4' a3
      clear hB4' hB3 h3 a3
      obtain ⟨r1, r2⟩ := read_yes hr2
      rw [r1, r2, show m4A n = #[.int .i64 n.tx, .int .i64 n.root, .int .i64 n.ents, .int .i64 n.pgs] from rfl]
      clear r1 r2
      have h5 := h4.alloc (.cells #[.int .i64 n.tx, .int .i64 n.root, .int .i64 n.ents, .int .i64 n.pgs] 30)
      have a5 := a4.alloc (.cells #[.int .i64 n.tx, .int .i64 n.root, .int .i64 n.ents, .int .i64 n.pgs] 30)
      have b5 := Holds.new w4 30 #[.int .i64 n.tx, .int .i64 n.root, .int .i64 n.ents, .int .i64 n.pgs]
      have hB5 := hB4.alloc hB4.size (.cells #[.int .i64 n.tx, .int .i64 n.root, .int .i64 n.ents, .int .i64 n.pgs] 30)
      obtain ⟨b, hb⟩ : ∃ b, b = w4.heap.size := ⟨_, rfl⟩
      rw [← hb] at b5
      have HQ5 : Hid (b = w4.heap.size) := hb
      have F5 : Hid (Holds _ g 30 #[.int .i64 0, .int .i64 0, .int .i64 0, .int .i64 0] ∧ Holds _ a 30 #[.int .i64 0, .int .i64 0, .int .i64 0, .int .i64 0] ∧ Holds _ b 30 #[.int .i64 n.tx, .int .i64 n.root, .int .i64 n.ents, .int .i64 n.pgs] ∧ Below w.heap.size w _) := ⟨h5, a5, b5, hB5⟩
      have c1 : (w4.alloc (.cells #[.int .i64 n.tx, .int .i64 n.root, .int .i64 n.ents, .int .i64 n.pgs] 30)).cell? ⟨a, 0, none⟩ = some (.int .i64 0) := a5.cell 0
      have c2 : (w4.alloc (.cells #[.int .i64 n.tx, .int .i64 n.root, .int .i64 n.ents, .int .i64 n.pgs] 30)).cell? ⟨b, 0, none⟩ = some (.int .i64 n.tx) := b5.cell 0
      clear h4 a4 hB4 h5 a5 b5 hB5 hb
      dsimp only
      have hnew : newS p q = some (n, 1) := qnew_right hr hr2
      have HN : Hid (newS p q = some (n, 1)) := hnew
      clear hnew
      go_wp2_with (first
        | (refine wpList_loadG rfl 30 (.tmp 9) rfl b rfl 30 _ _ F5.out.2.2.1 Tryd.underlying30 rfl infoMeta ?_)
        | (refine wpList_storeH rfl 30 _ _ rfl g #[.int .i64 n.tx, .int .i64 n.root, .int .i64 n.ents, .int .i64 n.pgs] rfl rfl 30 _ F5.out.1 infoMeta rfl (m4A_one n) ?_
           intro w7 h7 o7 z7)
        | fail)
      refine bodyPost_ret (results_three (p := 4) (u := 5) (v := 6) rfl _ w7 g 30 _ _ rfl h7 Tryd.underlying30 rfl infoMeta) rfl ⟨?_, ?_⟩
      · rw [HN.out]; rfl
      · exact Only.fresh F5.out.2.2.2 o7 (by have := HG.out; omega)
    | none =>
      obtain ⟨r1, r2⟩ := read_no hr
      rw [r1, r2]
      clear r1 r2
      have h3 := h2.alloc (.cells #[.int .i64 0, .int .i64 0, .int .i64 0, .int .i64 0] 30)
      have a3 := Holds.new w2 30 #[.int .i64 0, .int .i64 0, .int .i64 0, .int .i64 0]
      have hB3 := hB2.alloc hB2.size (.cells #[.int .i64 0, .int .i64 0, .int .i64 0, .int .i64 0] 30)
      obtain ⟨a, ha⟩ : ∃ a, a = w2.heap.size := ⟨_, rfl⟩
      go_wp2_with fail
      rw [← ha] at a3 ⊢
      have hga : g < a := by rw [ha]; exact h2.lt
      generalize w2.alloc (.cells #[.int .i64 0, .int .i64 0, .int .i64 0, .int .i64 0] 30) = w3 at h3 a3 hB3 ⊢
      clear ha hB2 h2
      refine (qread_any q _ hq).mono ?_
      rintro e w4 ⟨rfl, hB4'⟩
      have hB4 := hB3.trans (hB4'.mono hB3.size)
      have h4 := Below.holds hB4' h3
      have a4 := Below.holds hB4' a3
      clear hB4' hB3 h3 a3
      obtain ⟨r1, r2⟩ := read_no hr2
      rw [r1, r2]
      clear r1 r2
      have h5 := h4.alloc (.cells #[.int .i64 0, .int .i64 0, .int .i64 0, .int .i64 0] 30)
      have a5 := a4.alloc (.cells #[.int .i64 0, .int .i64 0, .int .i64 0, .int .i64 0] 30)
      have b5 := Holds.new w4 30 #[.int .i64 0, .int .i64 0, .int .i64 0, .int .i64 0]
      have hB5 := hB4.alloc hB4.size (.cells #[.int .i64 0, .int .i64 0, .int .i64 0, .int .i64 0] 30)
      obtain ⟨b, hb⟩ : ∃ b, b = w4.heap.size := ⟨_, rfl⟩
      rw [← hb] at b5
      have HQ5 : Hid (b = w4.heap.size) := hb
      have F5 : Hid (Holds _ g 30 #[.int .i64 0, .int .i64 0, .int .i64 0, .int .i64 0] ∧ Holds _ a 30 #[.int .i64 0, .int .i64 0, .int .i64 0, .int .i64 0] ∧ Holds _ b 30 #[.int .i64 0, .int .i64 0, .int .i64 0, .int .i64 0] ∧ Below w.heap.size w _) := ⟨h5, a5, b5, hB5⟩
      have c1 : (w4.alloc (.cells #[.int .i64 0, .int .i64 0, .int .i64 0, .int .i64 0] 30)).cell? ⟨a, 0, none⟩ = some (.int .i64 0) := a5.cell 0
      have c2 : (w4.alloc (.cells #[.int .i64 0, .int .i64 0, .int .i64 0, .int .i64 0] 30)).cell? ⟨b, 0, none⟩ = some (.int .i64 0) := b5.cell 0
      clear h4 a4 hB4 h5 a5 b5 hB5 hb
      dsimp only
      have hnew : newS p q = none := qnew_none hr hr2
      have HN : Hid (newS p q = none) := hnew
      clear hnew
      go_wp2_with (first
        | (refine wpList_storeH rfl 30 _ _ rfl g #[.int .i64 0, .int .i64 0, .int .i64 0, .int .i64 0] rfl rfl 30 _ F5.out.1 infoMeta rfl (m4A_one zeroM) ?_
           intro w7 h7 o7 z7)
        | fail)
      refine bodyPost_ret (results_three (p := 4) (u := 5) (v := 6) rfl _ w7 g 30 _ _ rfl h7 Tryd.underlying30 rfl infoMeta) rfl ⟨?_, ?_⟩
      · rw [HN.out]; rfl
      · exact Only.fresh F5.out.2.2.2 o7 (by have := HG.out; omega)
end Go.Proofs.YtjbenoaefjlbaaaDoor
