/-
  What the calls of Next do.
-/
import Derived.Test.YtkkjkanlaldhcaaPackW
namespace Go.Proofs.Ytkkjkanlaldhcaa
open Go Go.RowKit

theorem convert_atd (w : World) (a : Int) (c : UInt8) (h : a = (c.toNat : Int)) :
    (convert 38 9 (.slice (some ⟨w.heap.size, 0, none⟩) 1 1)).run Try.prog (w.alloc (.cells #[.int .u8 a] 5)).drew = .ok (.string ⟨#[c]⟩) (w.alloc (.cells #[.int .u8 a] 5)).drew :=
  convert_row (l := [c]) (w := (w.alloc (.cells #[.int .u8 a] 5)).drew) (b := w.heap.size) (cap := 1) (by
    refine (World.rowIs_alloc w #[.int .u8 a] 5 (fun _ => .int .u8 a) (fun i hi => ?_)).drew.congr fun i hi => ?_
    · have : i < 1 := hi
      have : i = 0 := by omega
      subst this; rfl
    · have : i < 1 := hi
      have : i = 0 := by omega
      subst this
      rw [h]; rfl)
theorem nxt_wrong (l : List UInt8) (h : rightL l = false) : nxtS l = ⟨#[]⟩ ∧ nxtB l = false := by
  have : nxt l = none := by unfold nxt; rw [if_neg]; rintro ⟨q, _⟩; rw [h] at q; cases q
  unfold nxtS nxtB; rw [this]; exact ⟨rfl, rfl⟩
theorem nxt_none (l : List UInt8) (h : cutK l = 0) : nxtS l = ⟨#[]⟩ ∧ nxtB l = false := by
  have : nxt l = none := by unfold nxt; rw [if_neg]; rintro ⟨_, q⟩; exact q h
  unfold nxtS nxtB; rw [this]; exact ⟨rfl, rfl⟩
theorem nxt_some (l : List UInt8) (j : Nat) (hr : rightL l = true) (h : cutK l = j + 1) : nxtS l = ⟨(l.take j ++ [UInt8.ofNat ((l.getD j 0).toNat + 1)]).toArray⟩ ∧ nxtB l = true := by
  have : nxt l = some (l.take j ++ [UInt8.ofNat ((l.getD j 0).toNat + 1)]) := by unfold nxt; rw [if_pos ⟨hr, by omega⟩, h]; rfl
  unfold nxtS nxtB; rw [this]; exact ⟨rfl, rfl⟩

def all15 (x : ByteArray) (k : Nat) : Prop := ∀ j (_ : j < x.size), k ≤ j → (x[j]).toNat = 15
theorem all15_step (x : ByteArray) (j : Nat) (hj : j < x.size) (h : all15 x (j + 1)) (he : (x[j]).toNat = 15) : all15 x j := fun i hi hji => by
  by_cases e : i = j
  · subst e; exact he
  · exact h i hi (by omega)
theorem cut_zero (x : ByteArray) (h : all15 x 0) : cutK x.data.toList = 0 := cutK_eq _ 0 (by omega) (fun j hj hk => h j hj hk) (fun _ h => by omega)
theorem cut_at (x : ByteArray) (j : Nat) (hj : j < x.size) (h : all15 x (j + 1)) (he : ¬ (x[j]).toNat = 15) : cutK x.data.toList = j + 1 :=
  cutK_eq _ (j + 1) (by rw [sizeB]; omega) (fun i hi hk => h i hi hk) (fun _ _ => he)

set_option maxRecDepth 4000 in
theorem next_any (x : ByteArray) (w : World) (hx : x.size ≤ 1000000) :
    Calls Try.prog 16 #[.string x] w fun e w' => e = .returned (.tuple #[.string (nxtS x.data.toList), .bool (nxtB x.data.toList)]) ∧ Below w.heap.size w w' := by
  cases hr : rightL x.data.toList with
  | false =>
    obtain ⟨h1, h2⟩ := nxt_wrong _ hr
    rw [h1, h2]
    have HR : Hid (rightL x.data.toList = false) := hr
    clear hr h1 h2
    go_enter Try.func16, Try.ntmps16
    go_wp2_with fail
    refine (right_any x _ (by omega)).mono ?_
    rintro e w1 ⟨rfl, rfl⟩
    rw [HR.out]
    go_wp2_with fail
    go_ret2
    exact ⟨rfl, Below.refl _ _⟩
  | true =>
    have HR : Hid (rightL x.data.toList = true) := hr
    clear hr
    go_enter Try.func16, Try.ntmps16
    go_wp2_with fail
    refine (right_any x _ (by omega)).mono ?_
    rintro e w1 ⟨rfl, rfl⟩
    rw [HR.out]
    go_wp2_with fail
    go_loopw [4] (fun y wr => wr = w1 ∧ (Hid (all15 x 0) ∧ y = .int .i64 (-1) ∨ ∃ j : Nat, j < x.size ∧ Hid (all15 x (j + 1)) ∧ y = .int .i64 j)) (fun y _ => (intOf y + 1).toNat)
    case atStart =>
      refine ⟨rfl, ?_⟩
      by_cases h : x.size = 0
      · left; exact ⟨fun j hj _ => by omega, by rw [h]; rfl⟩
      · right; exact ⟨x.size - 1, by omega, fun j hj hk => by omega, by congr 1; omega⟩
    case round =>
      obtain ⟨rfl, h⟩ := hrel
      rcases h with ⟨HA, rfl⟩ | ⟨j, hj, HA, rfl⟩
      · obtain ⟨h1, h2⟩ := nxt_none _ (cut_zero x HA.out)
        have H1 : Hid (nxtS x.data.toList = ⟨#[]⟩) := h1
        have H2 : Hid (nxtB x.data.toList = false) := h2
        clear h1 h2
        go_wp2_with fail
        go_ret2
        exact ⟨by rw [H1.out, H2.out]; rfl, Below.refl _ _⟩
      · have hji : (j : Int) < x.size := by omega
        have hj0 : (0 : Int) ≤ j := by omega
        by_cases he : (x[j]).toNat = 15
        · have hei : ((x[j]).toNat : Int) = 15 := by omega
          have HA2 : Hid (all15 x j) := all15_step x j hj HA.out he
          go_wp2_with fail
          go_roundw
          case rel =>
            refine ⟨trivial, ?_⟩
            cases j with
            | zero => left; exact ⟨HA2, rfl⟩
            | succ j => right; exact ⟨j, by omega, HA2, by congr 1; omega⟩
          case measure => simp [intOf]
        · have hei : ¬ ((x[j]).toNat : Int) = 15 := by omega
          go_wp2_with fail
          have h16 : (x[j]).toNat < 16 := by have := right_at _ HR.out j hj; rw [getB x j hj]; exact this
          obtain ⟨f, hf⟩ : ∃ f, f = (x[j]).toNat := ⟨_, rfl⟩
          obtain ⟨y, hy⟩ : ∃ y, y = x.extract 0 j := ⟨_, rfl⟩
          obtain ⟨c, hc⟩ : ∃ c, c = UInt8.ofNat (f + 1) := ⟨_, rfl⟩
          have hcn : c.toNat = f + 1 := by rw [hc, ofNat_toNat _ (by omega)]
          obtain ⟨h1, h2⟩ := nxt_some _ j HR.out (cut_at x j hj HA.out he)
          have hyl : y.data.toList = x.data.toList.take j := by rw [hy, extract_str]; simp
          have hys : y.size = j := by rw [← sizeB, hyl, List.length_take, sizeB]; omega
          have hap : y ++ (⟨#[c]⟩ : ByteArray) = nxtS x.data.toList := by
            have := ByteArray.mk_append_mk y.data.toList [c]
            rw [show (⟨y.data.toList.toArray⟩ : ByteArray) = y by simp, hyl] at this
            rw [h1, getDB x j hj, ← hf, ← hc]
            exact this
          have H2 : Hid (nxtB x.data.toList = true) := h2
          have HAP : Hid (y ++ (⟨#[c]⟩ : ByteArray) = nxtS x.data.toList) := hap
          have hcv := fun w => convert_atd w ((f : Int) + 1) c (by rw [hcn]; omega)
          have hsl : ∀ w, (Instr.sliceAt 9 (.string x) none (some (.int .i64 j)) none).run Try.prog w = .ok (.string y) w := by
            intro w; rw [hy]; go_simp; intro h; omega
          have hf0 : ((x[j]).toNat : Int) = f := by omega
          have hf16 : (f : Int) + 1 < 256 := by omega
          have hfe : ¬ (f : Int) = 15 := by omega
          have hfe' : ¬ f = 15 := by omega
          have hsz1 : (⟨#[c]⟩ : ByteArray).size = 1 := rfl
          have hyi : (y.size : Int) + 1 ≤ 9223372036854775807 := by omega
          have HY : Hid (y = x.extract 0 j) := hy
          have HC : Hid (c = UInt8.ofNat (f + 1)) := hc
          clear h1 h2 hap hy hc hf hcn hyl he hei
          refine wp_region_ptail 7 mixedP (by kernel_rfl) (by decide) (by kernel_rfl) (by kernel_rfl) (fun _ _ _ d _ h => by cases d <;> exact h) ?_
          simp only [List.take_succ_cons, List.take_zero, List.drop_succ_cons, List.drop_zero]
          repeat (go_big_quiet_step (fail))
          refine wpQuiet_nil ?_
          go_wp2_with fail
          go_ret2
          exact ⟨by rw [H2.out, ← HAP.out]; rfl, ((Below.refl _ _).alloc (Nat.le_refl _) _).drew⟩
end Go.Proofs.Ytkkjkanlaldhcaa
