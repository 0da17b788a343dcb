/-
  What the calls of Leaf, Extension, Ref, Empty do.
-/
import Derived.Test.YtjdhdeffiigpbaaDoorTPure
import Derived.Test.YtjdhdeffiigpbaaDoorListW
import Derived.Test.YtjdhdeffiigpbaaDoorKB
import Derived.Test.YtjdhdeffiigpbaaDoorPackW
import Derived.Test.YtjdhdeffiigpbaaDoorCQuiet
namespace Go.Proofs.YtjdhdeffiigpbaaDoor
open Go Go.RowKit

theorem two_texts (w : World) (x y : ByteArray) (j : Nat) (u : ByteArray) (h : [x, y][j]? = some u) : (w.alloc (.cells #[.string x, .string y] 9)).cell? ⟨w.heap.size, 0 + j, none⟩ = some (.string u) := by
  rw [World.cell?_alloc_mark]
  match j, h with
  | 0, h => simpa using h
  | 1, h => simpa using h
  | j + 2, h => simp at h
theorem one_text (w : World) (x : ByteArray) : K.Texts (w.alloc (.cells #[.string x] 9)) (.slice (some ⟨w.heap.size, 0, none⟩) 1 1) [x] := by
  refine ⟨_, 1, rfl, fun i hi => ⟨w.heap.size, 0, rfl, by rw [World.size_alloc]; omega, ?_⟩⟩
  have : i = 0 := by simpa using hi
  subst this
  rw [World.cell?_alloc_mark]; rfl
theorem alloc_below {w w' : World} {o : Obj} (h : Below (w.alloc o).heap.size (w.alloc o) w') : Below w.heap.size w w' :=
  ((Below.refl _ _).alloc (Nat.le_refl _) o).trans (h.mono (by rw [World.size_alloc]; omega))
theorem pck_len (l : List UInt8) (leaf : Bool) : (Nb.pck l leaf).length = l.length / 2 + 1 := by
  unfold Nb.pck
  split
  · rw [List.length_cons, Nb.whL_len, List.length_drop]; omega
  · rw [List.length_cons, Nb.whL_len]
theorem bytesL_len (l : List UInt8) : (bytesL l).length ≤ l.length + 9 := by
  unfold bytesL
  split
  · omega
  · rw [List.length_append]
    have := hd_len 128 l.length
    omega
theorem listL_len (l : List UInt8) : (listL l).length ≤ l.length + 9 := by
  unfold listL
  rw [List.length_append]
  have := hd_len 192 l.length
  omega
theorem cat_two (x y : ByteArray) : cat [x, y] = x.data.toList ++ y.data.toList := by simp [cat]

set_option maxRecDepth 4000 in
theorem short_no (path behind : ByteArray) (leaf : Bool) (w : World) (hp : path.size ≤ 1000000) (h : Nb.rightL path.data.toList = false) :
    Calls Tryd.prog 26 #[.string path, .bool leaf, .string behind] w fun e w' => e = .returned (.tuple #[.string ⟨#[]⟩, .int .i64 1]) ∧ Below w.heap.size w w' := by
  have hc := Nb.pack_any path leaf w hp
  have hS : Nb.pckS path.data.toList leaf = ⟨#[]⟩ := by unfold Nb.pckS; rw [h]; rfl
  have hE : Nb.pckE path.data.toList = 1 := by unfold Nb.pckE; rw [h]; rfl
  rw [hS, hE] at hc
  go_enter Tryd.func26, Tryd.ntmps26
  go_wp2_with fail
  refine hc.mono ?_
  rintro e w1 ⟨rfl, hB⟩
  go_wp2_with fail
  go_ret2
  exact ⟨rfl, hB⟩
set_option maxRecDepth 4000 in
theorem short_ok (path behind : ByteArray) (leaf : Bool) (w : World) (hp : path.size ≤ 1000000) (hb : behind.size ≤ 10000000) (h : Nb.rightL path.data.toList = true) :
    Calls Tryd.prog 26 #[.string path, .bool leaf, .string behind] w fun e w' => e = .returned (.tuple #[.string ⟨(listL (bytesL (Nb.pck path.data.toList leaf) ++ behind.data.toList)).toArray⟩, .int .i64 0]) ∧ Below w.heap.size w w' := by
  have hc := Nb.pack_any path leaf w hp
  obtain ⟨z, hz⟩ : ∃ z : ByteArray, z = ⟨(Nb.pck path.data.toList leaf).toArray⟩ := ⟨_, rfl⟩
  have hS : Nb.pckS path.data.toList leaf = z := by unfold Nb.pckS; rw [h, hz]; rfl
  have hE : Nb.pckE path.data.toList = 0 := by unfold Nb.pckE; rw [h]; rfl
  rw [hS, hE] at hc
  have hzs : z.size ≤ 1000001 := by
    rw [hz]
    show (Nb.pck path.data.toList leaf).length ≤ _
    rw [pck_len, sizeB]; omega
  obtain ⟨y, hy⟩ : ∃ y : ByteArray, y = ⟨(bytesL z.data.toList).toArray⟩ := ⟨_, rfl⟩
  have hys : y.size ≤ 1000010 := by
    rw [hy]
    show (bytesL z.data.toList).length ≤ _
    have := bytesL_len z.data.toList
    rw [sizeB] at this; omega
  have HZ : Hid (z = ⟨(Nb.pck path.data.toList leaf).toArray⟩ ∧ y = ⟨(bytesL z.data.toList).toArray⟩) := ⟨hz, hy⟩
  have hcb := fun w => bytes_any z w (by omega)
  rw [← hy] at hcb
  have HCB : Hid (∀ w, Calls Tryd.prog 27 #[.string z] w fun e w' => e = .returned (.string y) ∧ Below w.heap.size w w') := hcb
  clear hz hy hS hE hcb
  go_enter Tryd.func26, Tryd.ntmps26
  go_wp2_with fail
  refine hc.mono ?_
  rintro e w1 ⟨rfl, hB⟩
  go_wp2_with fail
  refine (HCB.out _).mono ?_
  rintro e w2 ⟨rfl, hB2⟩
  go_wp2_with fail
  refine (list_any w2.heap.size 0 2 [y, behind] _ (two_texts w2 y behind) (by rw [World.size_alloc]; omega) (by simp) (by simp) (by rw [cat_two, List.length_append, sizeB, sizeB]; omega)).mono ?_
  rintro e w3 ⟨rfl, hB3⟩
  go_wp2_with fail
  go_ret2
  refine ⟨?_, (hB.trans (hB2.mono hB.size)).trans ((alloc_below hB3).mono (Nat.le_trans hB.size hB2.size))⟩
  have e1 : listL (cat [y, behind]) = listL (bytesL (Nb.pck path.data.toList leaf) ++ behind.data.toList) := by rw [cat_two, HZ.out.2, HZ.out.1]
  rw [e1]; rfl
def okE (l : List UInt8) : Int := if Nb.rightL l then 0 else 1
def leafS (p v : ByteArray) : ByteArray := if Nb.rightL p.data.toList then ⟨(leafL p.data.toList v.data.toList).toArray⟩ else ⟨#[]⟩
def extS (p v : ByteArray) : ByteArray := if Nb.rightL p.data.toList then ⟨(extL p.data.toList v.data.toList).toArray⟩ else ⟨#[]⟩
set_option maxRecDepth 4000 in
theorem leaf_any (path v : ByteArray) (w : World) (hp : path.size ≤ 1000000) (hb : v.size ≤ 1000000) :
    Calls Tryd.prog 8 #[.string path, .string v] w fun e w' => e = .returned (.tuple #[.string (leafS path v), .int .i64 (okE path.data.toList)]) ∧ Below w.heap.size w w' := by
  obtain ⟨y, hy⟩ : ∃ y : ByteArray, y = ⟨(bytesL v.data.toList).toArray⟩ := ⟨_, rfl⟩
  have hys : y.size ≤ 1000010 := by
    rw [hy]
    show (bytesL v.data.toList).length ≤ _
    have := bytesL_len v.data.toList
    rw [sizeB] at this; omega
  have hcb := bytes_any v w (by omega)
  rw [← hy] at hcb
  have HY : Hid (y = ⟨(bytesL v.data.toList).toArray⟩) := hy
  clear hy
  have hc : ∀ w, Calls Tryd.prog 26 #[.string path, .bool true, .string y] w fun e w' => e = .returned (.tuple #[.string (leafS path v), .int .i64 (okE path.data.toList)]) ∧ Below w.heap.size w w' := by
    intro w
    unfold leafS okE
    cases h : Nb.rightL path.data.toList with
    | false => exact short_no path y true w hp h
    | true =>
      refine (short_ok path y true w hp (by omega) h).mono ?_
      rintro e w' ⟨rfl, hB⟩
      refine ⟨?_, hB⟩
      rw [HY.out]; rfl
  go_enter Tryd.func8, Tryd.ntmps8
  go_wp2_with fail
  refine hcb.mono ?_
  rintro e w1 ⟨rfl, hB⟩
  go_wp2_with fail
  refine (hc _).mono ?_
  rintro e w2 ⟨rfl, hB2⟩
  go_wp2_with fail
  go_ret2
  exact ⟨rfl, hB.trans (hB2.mono hB.size)⟩
set_option maxRecDepth 4000 in
theorem ext_any (path v : ByteArray) (w : World) (hp : path.size ≤ 1000000) (hb : v.size ≤ 1000000) :
    Calls Tryd.prog 10 #[.string path, .string v] w fun e w' => e = .returned (.tuple #[.string (extS path v), .int .i64 (okE path.data.toList)]) ∧ Below w.heap.size w w' := by
  have hc : ∀ w, Calls Tryd.prog 26 #[.string path, .bool false, .string v] w fun e w' => e = .returned (.tuple #[.string (extS path v), .int .i64 (okE path.data.toList)]) ∧ Below w.heap.size w w' := by
    intro w
    unfold extS okE
    cases h : Nb.rightL path.data.toList with
    | false => exact short_no path v false w hp h
    | true => exact short_ok path v false w hp (by omega) h
  go_enter Tryd.func10, Tryd.ntmps10
  go_wp2_with fail
  refine (hc _).mono ?_
  rintro e w2 ⟨rfl, hB2⟩
  go_wp2_with fail
  go_ret2
  exact ⟨rfl, hB2⟩
theorem cat_one (x : ByteArray) : K.cat [x] = x.data.toList := by simp [K.cat]
theorem infoSum14 : (Tryd.prog.info? 40).map (·.size) = some 32 := by kernel_rfl
theorem zeroSum14 : ∀ w, (zeroValue 40).run Tryd.prog w = .ok (.agg (K.bytesA 32 fun _ => 0)) w := (zero_of_info (n := 32) (by kernel_rfl)).1
/-- The hash of one text, made in a call. -/
theorem sumOne (x : ByteArray) (hx : x.size ≤ 100000000) : ∀ w : World, K.Tabs w → Calls Tryd.prog 33 #[.slice (some ⟨w.heap.size, 0, none⟩) 1 1] (w.alloc (.cells #[.string x] 9)) fun e w' => e = .returned (.agg (K.bytesA 32 (K.hashOf x.data.toList))) ∧ Below w.heap.size w w' := by
  intro w hT
  have h := K.sumParts_any _ [x] _ (one_text w x) (hT.below ((Below.refl _ _).alloc (Nat.le_refl _) _)) (by rw [cat_one, sizeB]; omega) (by simp)
  rw [cat_one] at h
  exact h.mono fun e w' ⟨he, hB⟩ => ⟨he, alloc_below hB⟩
set_option maxRecDepth 4000 in
theorem empty_any (w : World) (hT : K.Tabs w) :
    Calls Tryd.prog 23 #[] w fun e w' => e = .returned (.agg (K.bytesA 32 (K.hashOf [128]))) ∧ Below w.heap.size w w' := by
  have hz := zeroSum14
  obtain ⟨zs, hzs⟩ : ∃ zs, K.bytesA 32 (fun _ => 0) = zs := ⟨_, rfl⟩
  have hzz : zs.size = 32 := by rw [← hzs]; exact K.bytesA_size 32 _
  rw [hzs] at hz
  have hcb := fun w => bytes_any ⟨#[]⟩ w (by decide)
  have e128 : (⟨(bytesL (⟨#[]⟩ : ByteArray).data.toList).toArray⟩ : ByteArray) = ⟨#[128]⟩ := rfl
  rw [e128] at hcb
  have HS := fun w (h : K.Tabs w) => sumOne ⟨#[128]⟩ (by decide) w h
  have eL : (⟨#[128]⟩ : ByteArray).data.toList = [128] := rfl
  rw [eL] at HS
  have hon := K.bytesA_one 32 (K.hashOf [128])
  have hss : (K.bytesA 32 (K.hashOf [128])).size = 32 := K.bytesA_size 32 _
  obtain ⟨sm, hsm⟩ : ∃ sm, K.bytesA 32 (K.hashOf [128]) = sm := ⟨_, rfl⟩
  rw [hsm] at hon hss HS ⊢
  have hin : (Tryd.prog.info? 40).map (·.size) = some sm.size := by rw [hss]; exact infoSum14
  clear hsm hzs
  go_enter Tryd.func23, Tryd.ntmps23
  go_wp2_with fail
  refine (hcb _).mono ?_
  rintro e w1 ⟨rfl, hB1⟩
  go_wp2_with fail
  have hB1' := alloc_below hB1
  have h1 : K.Holds w1 w.heap.size 40 zs := K.Below.holds hB1 (K.Holds.new _ _ _)
  have hB2 := (hT.below hB1')
  refine (HS w1 hB2).mono ?_
  rintro e w2 ⟨rfl, hB3⟩
  have h2 := K.Below.holds hB3 h1
  dsimp only
  go_wp2_with (first
    | (refine K.wpList_storeH rfl 40 _ _ rfl w.heap.size sm rfl rfl 40 zs h2 hin (by rw [hzz, hss]) hon ?_
       intro w3 h3 o3 z3)
    | fail)
  refine bodyPost_ret (K.results_cellH rfl _ _ w.heap.size 40 sm _ rfl h3 Tryd.underlying40 rfl hin) rfl ?_
  exact ⟨rfl, K.Only.fresh (hB1'.trans (hB3.mono hB1'.size)) o3 (Nat.le_refl _)⟩
theorem convert_sum {w : World} {b : Nat} {t : TypeId} {R : Nat → UInt8} (h : K.Holds w b t (K.bytesA 32 R)) :
    (convert 57 9 (.slice (some ⟨b, 0, none⟩) 32 32)).run Tryd.prog w = .ok (.string ⟨(K.headL R 32).toArray⟩) w := by
  have hl : (K.headL R 32).length = 32 := by simp [K.headL]
  have hg : ∀ j (hj : j < (K.headL R 32).length), (K.headL R 32)[j] = R j := fun j hj => by simp [K.headL]
  have := run_convert_bytes_back w 57 9 5 ⟨b, 0, none⟩ 32 (K.headL R 32) underBytes (by kernel_rfl) (by kernel_rfl) (fun j hj => by
    have hc := h.cell j
    rw [hl] at hj
    rw [K.bytesA_get 32 R j hj] at hc
    rw [add_plain, Nat.zero_add, hc, hg]
    rfl)
  rw [hl] at this
  exact this
set_option maxRecDepth 4000 in
theorem ref_any (x : ByteArray) (w : World) (hT : K.Tabs w) (hx : x.size ≤ 100000000) :
    Calls Tryd.prog 14 #[.string x] w fun e w' => e = .returned (.string ⟨(refN x.data.toList).toArray⟩) ∧ Below w.heap.size w w' := by
  have hl : x.data.toList.length = x.size := rfl
  by_cases h : x.size < 32
  · have hi : (x.size : Int) < 32 := by omega
    have hr : refN x.data.toList = x.data.toList := by unfold refN; rw [hl, if_pos h]
    go_enter Tryd.func14, Tryd.ntmps14
    go_wp2_with fail
    go_ret
    exact ⟨by rw [hr]; rfl, Below.refl _ _⟩
  · have hi : ¬ (x.size : Int) < 32 := by omega
    have hr : refN x.data.toList = bytesL (K.headL (K.hashOf x.data.toList) 32) := by unfold refN; rw [hl, if_neg h]
    have HR : Hid (refN x.data.toList = bytesL (K.headL (K.hashOf x.data.toList) 32)) := hr
    have hz := zeroSum14
    obtain ⟨zs, hzs⟩ : ∃ zs, K.bytesA 32 (fun _ => 0) = zs := ⟨_, rfl⟩
    have hzz : zs.size = 32 := by rw [← hzs]; exact K.bytesA_size 32 _
    rw [hzs] at hz
    have HS := sumOne x hx
    have hcv := fun (w : World) (b : Nat) (t : TypeId) => convert_sum (w := w) (b := b) (t := t) (R := K.hashOf x.data.toList)
    have hon := K.bytesA_one 32 (K.hashOf x.data.toList)
    have hss : (K.bytesA 32 (K.hashOf x.data.toList)).size = 32 := K.bytesA_size 32 _
    obtain ⟨sm, hsm⟩ : ∃ sm, K.bytesA 32 (K.hashOf x.data.toList) = sm := ⟨_, rfl⟩
    obtain ⟨y, hy⟩ : ∃ y : ByteArray, y = ⟨(K.headL (K.hashOf x.data.toList) 32).toArray⟩ := ⟨_, rfl⟩
    have hys : y.size = 32 := by rw [hy]; show (K.headL _ 32).length = 32; simp [K.headL]
    rw [hsm] at hon hss HS hcv
    rw [← hy] at hcv
    have hyb : bytesL y.data.toList = bytesL (K.headL (K.hashOf x.data.toList) 32) := by rw [hy]
    rw [← hyb] at HR
    have hcb := fun w => bytes_any y w (by omega)
    have hin : (Tryd.prog.info? 40).map (·.size) = some sm.size := by rw [hss]; exact infoSum14
    have HCV : Hid (∀ (w : World) (b : Nat) (t : TypeId), K.Holds w b t sm → (convert 57 9 (.slice (some ⟨b, 0, none⟩) 32 32)).run Tryd.prog w = .ok (.string y) w) := hcv
    have HCB : Hid (∀ w, Calls Tryd.prog 27 #[.string y] w fun e w' => e = .returned (.string ⟨(bytesL y.data.toList).toArray⟩) ∧ Below w.heap.size w w') := hcb
    clear hsm hzs hr hy hyb hcv hcb
    go_enter Tryd.func14, Tryd.ntmps14
    go_wp2_with fail
    refine (HS w hT).mono ?_
    rintro e w1 ⟨rfl, hB1⟩
    dsimp only
    go_wp2_with (first
      | (refine K.wpList_storeH rfl 40 _ _ rfl w1.heap.size sm rfl rfl 40 zs (K.Holds.new _ _ _) hin (by rw [hzz, hss]) hon ?_
         intro w3 h3 o3 z3
         have hcv3 := HCV.out w3 _ _ h3)
      | fail)
    have hB3 : Below w.heap.size w w3 := K.Only.fresh (hB1.trans (((Below.refl _ _).alloc (Nat.le_refl _) _).mono hB1.size)) o3 hB1.size
    refine (HCB.out _).mono ?_
    rintro e w4 ⟨rfl, hB4⟩
    go_wp2_with fail
    go_ret
    refine ⟨by rw [HR.out]; rfl, hB3.trans (hB4.mono hB3.size)⟩
end Go.Proofs.YtjdhdeffiigpbaaDoor
