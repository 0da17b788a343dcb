/-
  What Bytes does.
-/
import Derived.Test.YtdfpnpjdiebniaaBGF
import Derived.Test.YtdfpnpjdiebniaaBCut2
import Derived.Test.YtdfpnpjdiebniaaBKindW
namespace Go.Proofs.Ytdfpnpjdiebniaa
open Go Go.RowKit Go.Maps

/-- A container's bytes behind its head. -/
def bodyB (p : Nat → Bool) : List UInt8 := if cnt p ≤ 32 then lowB p else bitB p
/-- A container's bytes. -/
def partB (M : Nat → Bool) (u : Nat) : List UInt8 := [UInt8.ofNat (u / 65536), UInt8.ofNat (u / 256), UInt8.ofNat u, UInt8.ofNat (cnt (atU M u) - 1)] ++ bodyB (atU M u)
/-- A set's bytes. -/
noncomputable def bytesM (M : Nat → Bool) : List UInt8 := (uppers M 0).flatMap (partB M)
theorem cnt_lows (p : Nat → Bool) : cnt p = (lowsL p 0).length := by
  unfold cnt lowsL
  rw [List.countP_eq_length_filter]
  simp
theorem bodyB_len (p : Nat → Bool) : (bodyB p).length ≤ 32 := by
  unfold bodyB
  split
  · rw [lowB_len, ← cnt_lows]; assumption
  · rw [bitB_len]; exact Nat.le_refl _
theorem partB_len (M : Nat → Bool) (u : Nat) : (partB M u).length ≤ 36 := by
  unfold partB
  have := bodyB_len (atU M u)
  simp
  omega
/-- The bytes of the first. -/
def doneB (M : Nat → Bool) (us : List Nat) (i : Nat) : List UInt8 := (us.take i).flatMap (partB M)
theorem doneB_all (M : Nat → Bool) (us : List Nat) : doneB M us us.length = us.flatMap (partB M) := by unfold doneB; rw [List.take_length]
theorem doneB_succ {M : Nat → Bool} {us : List Nat} {i u : Nat} (h : us[i]? = some u) : doneB M us (i + 1) = doneB M us i ++ partB M u := by
  unfold doneB
  have hi := (List.getElem?_eq_some_iff.1 h).1
  rw [List.take_succ_eq_append_getElem hi, List.flatMap_append, List.flatMap_cons, List.flatMap_nil, List.append_nil]
  rw [List.getElem?_eq_getElem hi] at h
  injection h with h
  rw [h]
theorem flatB_len (M : Nat → Bool) : ∀ (l : List Nat), (l.flatMap (partB M)).length ≤ 36 * l.length
  | [] => by simp
  | u :: l => by
    rw [List.flatMap_cons, List.length_append, List.length_cons]
    have := flatB_len M l
    have := partB_len M u
    omega
theorem doneB_len (M : Nat → Bool) (us : List Nat) (i : Nat) (hi : i ≤ us.length) (hl : us.length ≤ 8388608) : (doneB M us i).length ≤ 301989888 := by
  have := flatB_len M (us.take i)
  unfold doneB
  rw [List.length_take] at this
  omega

theorem kindV.shape {m : Nat} {v : Value} {w w' : World} (h : kindV m v w w') : ∃ n r z, v = .tuple #[.func (.func n) #[] #[], r, z] ∧ (n = 69 ∨ n = 71) := by
  rcases h with ⟨_, h⟩ | ⟨_, b, h, _⟩
  · exact ⟨_, _, _, h, .inl rfl⟩
  · exact ⟨_, _, _, h, .inr rfl⟩
/-- What writes a container's lower parts. -/
theorem body_any (p : Nat → Bool) {n : Nat} {r s : Value} {w w0 w1 : World} (hk : kindV (cnt p) (.tuple #[.func (.func n) #[] #[], r, s]) w0 w1) :
    Calls Try.prog n #[.agg (contA p)] w fun e w' => e = .returned (.string ⟨(bodyB p).toArray⟩) ∧ Below w.heap.size w w' := by
  rcases hk with ⟨h1, h2⟩ | ⟨h1, b, h2, _⟩
  · simp at h2
    rw [h2.1]
    unfold bodyB
    rw [if_pos h1]
    exact writeList_any p w
  · simp at h2
    rw [h2.1]
    unfold bodyB
    rw [if_neg (by omega)]
    exact bits_any p w

set_option maxRecDepth 8000 in
set_option maxHeartbeats 2000000 in
theorem bytes_any {w : World} {s : Value} {mo : Option Nat} {M : Nat → Bool} (h : View w s mo M) :
    Calls Try.prog 31 #[s] w fun e w' => e = .returned (.string ⟨(bytesM M).toArray⟩) ∧ Below w.heap.size w w' := by
  obtain ⟨W0, hW0⟩ : ∃ W0, World.alloc w (.cells #[.pointer none, .slice none 0 0] 88) = W0 := ⟨_, rfl⟩
  have hb0 : Holds W0 w.heap.size 88 #[.pointer none, .slice none 0 0] := by rw [← hW0]; exact Holds.new _ _ _
  have hB0 : Below w.heap.size w W0 := by rw [← hW0]; exact below_new1 _ _
  have hp := parts_any (h.below hB0) 0
  have husl := uppers_len M 0
  have hus : ∀ u ∈ uppers M 0, u < NU ∧ liveU M u := fun _ hu => ⟨(mem_uppers.1 hu).1, (mem_uppers.1 hu).2.2⟩
  unfold bytesM
  generalize uppers M 0 = us at hp husl hus ⊢
  go_enter Try.func31, Try.ntmps31
  go_wp2_with (first
    | (go_at_call 53; refine hp.mono ?_; rintro e w1 ⟨v, rfl, hP, hB1, hob⟩; obtain ⟨p, n, c, rfl⟩ := hP.shape))
  have hS := fun (W : World) (l : List UInt8) (v : Value) (n : Nat) (hb : Bld W w.heap.size n v (Lib.byteCells l)) (hw : w.heap.size ≤ W.heap.size) => Try.Builder_String_any w.heap.size w.heap.size l W hb.is hw
  have hw1 : w.heap.size < w1.heap.size := Nat.lt_of_lt_of_le hb0.lt hB1.size
  have hb1 := below_holds hB1 hb0
  have hz0 : w.heap.size < W0.heap.size := hb0.lt
  have hBw := below_new hB0 hB1
  clear hp hW0 hB0 hb0 h
  rcases hP with ⟨h1, rfl⟩ | ⟨g, cap, h1, hgl, hin⟩
  · injection h1 with e1 e2 e3
    subst e1 e2 e3
    have hbl : Bld w1 w.heap.size w1.heap.size (.slice none 0 0) (Lib.byteCells []) := ⟨hw1, ⟨_, .inl rfl, hb1⟩, World.ownsRow_nil _ _ _ _⟩
    have hS1 := hS w1 [] _ _ hbl (by omega)
    clear hS
    go_loopw [13] (fun y wr => y = .int .i64 0 ∧ wr = w1) (fun _ _ => 0)
    case atStart => exact ⟨rfl, rfl⟩
    case round =>
      obtain ⟨rfl, rfl⟩ := hrel
      go_wp2_with (first | (go_at_call 57; refine hS1.mono ?_; rintro e w2 ⟨rfl, hB2⟩))
      go_ret
      exact ⟨rfl, hBw.trans hB2⟩
  · injection h1 with e1 e2 e3
    subst e1 e2 e3
    have hbl : Bld w1 w.heap.size w1.heap.size (.slice none 0 0) (Lib.byteCells (doneB M us 0)) := ⟨hw1, ⟨_, .inl rfl, hb1⟩, World.ownsRow_nil _ _ _ _⟩
    have hgW : w.heap.size < g := by have := hob g rfl; omega
    go_loopw [13] (fun y wr => ∃ i v, y = .int .i64 (i : Nat) ∧ i ≤ us.length ∧ Bld wr w.heap.size w1.heap.size v (Lib.byteCells (doneB M us i)) ∧ PartsIn wr g M us ∧ w1.heap.size ≤ wr.heap.size ∧ Below w.heap.size w wr) (fun y _ => us.length - (intOf y).toNat)
    case atStart => exact ⟨0, _, rfl, Nat.zero_le _, hbl, hin, Nat.le_refl _, hBw⟩
    case round =>
      obtain ⟨i, v, rfl, hi, hb, hin', hsz, hBr⟩ := hrel
      clear hbl hb1 hin hob hBw hB1
      by_cases hlt : i < us.length
      · have hii : (i : Int) < us.length := by omega
        have hil : (i : Int) < 8388608 := by omega
        have hi0 : (0 : Int) ≤ i := by omega
        obtain ⟨u, hu⟩ : ∃ u, us[i]? = some u := ⟨_, List.getElem?_eq_getElem hlt⟩
        obtain ⟨huN, hlv⟩ := hus u (List.mem_of_getElem? hu)
        rw [NU_eq] at huN
        have hrng := hin'.range hu
        have hnx := doneB_succ (M := M) hu
        have hC := IsC.mk (atU M u)
        have hct := count5 (atU M u)
        have hcl := cnt_le (atU M u)
        have hki := fun W => kind_any (cnt (atU M u)) W hcl
        have hdl := doneB_len M us i hi husl
        have hbo := fun (n : Nat) (r s : Value) (w w0 w1 : World) => body_any (atU M u) (n := n) (r := r) (s := s) (w := w) (w0 := w0) (w1 := w1)
        have hbl := bodyB_len (atU M u)
        have hpb : partB M u = [UInt8.ofNat (u / 65536), UInt8.ofNat (u / 256), UInt8.ofNat u, UInt8.ofNat (cnt (atU M u) - 1)] ++ bodyB (atU M u) := rfl
        have hcp : 0 < cnt (atU M u) := cnt_pos.2 hlv
        generalize bodyB (atU M u) = bo at hbo hbl hpb
        generalize cnt (atU M u) = ct at hct hcl hki hbo hpb hcp
        generalize hcs : contA (atU M u) = cs at hrng hC hct hbo
        have HU : Hid (us[i]? = some u) := hu
        have HN : Hid (doneB M us (i + 1) = doneB M us i ++ partB M u) := hnx
        have HP : Hid (partB M u = [UInt8.ofNat (u / 65536), UInt8.ofNat (u / 256), UInt8.ofNat u, UInt8.ofNat (ct - 1)] ++ bo) := hpb
        clear hu hnx hcs hpb
        have huI : (u : Int) < 8388608 := by omega
        have huI0 : (0 : Int) ≤ u := by omega
        have hcI : (ct : Int) ≤ 256 := by omega
        have hcI0 : (1 : Int) ≤ ct := by omega
        obtain ⟨W1, hW1⟩ : ∃ W1, World.alloc wr (.cells zero33 80) = W1 := ⟨_, rfl⟩
        have h1 : Holds W1 wr.heap.size 80 zero33 := by rw [← hW1]; exact Holds.new _ _ _
        have hB1 : Below wr.heap.size wr W1 := by rw [← hW1]; exact below_new1 _ _
        rw [zero33_eq] at hW1
        go_wp2_with (first
          | (refine wpList_ldP rfl _ rfl rfl hrng hC ?_)
          | (refine wpList_stP rfl _ _ rfl rfl rfl hC h1 rfl ?_; intro W2 h2 hO2 hs2; clear hs2; have hB2 : Below wr.heap.size wr W2 := Only.fresh hB1 hO2 (Nat.le_refl _))
          | (refine wpList_ldPC rfl _ rfl rfl h2 hC ?_)
          | (go_at_call 45; refine (hct _).mono ?_; rintro e w3 ⟨rfl, hB3⟩)
          | (go_at_call 54; refine (hki _).mono ?_; rintro e w4 ⟨kv, rfl, hkv, hB4⟩; obtain ⟨kn, kr, kz, rfl, hkn⟩ := hkv.shape; have h24 := below_holds hB4 (below_holds hB3 h2); have hc24 : w4.cell? ⟨wr.heap.size, 0, none⟩ = some (.int .i64 (u : Nat)) := (h24.cell 0).trans (partA_zero u cs)))
        have hne4 : (w4.heap.size : Nat) ≠ w.heap.size := by have := hB2.size; have := hB3.size; have := hB4.size; omega
        have hBr4 : Below wr.heap.size wr w4 := below_new (below_new hB2 hB3) hB4
        have hb4 := (hb.below hBr4).below (below_new1 w4 (.cells #[.int .u8 ((u : Int) / 65536), .int .u8 ((u : Int) / 256 % 256), .int .u8 ((u : Int) % 256), .int .u8 ((ct : Int) - 1)] 5))
        have hwr := hBr4.size
        refine (write_any (m := 4) (news := #[.int .u8 ((u : Int) / 65536), .int .u8 ((u : Int) / 256 % 256), .int .u8 ((u : Int) % 256), .int .u8 ((ct : Int) - 1)]) hb4 (Holds.new _ _ _) rfl hne4 (by intro u hu; simp at hu; rcases hu with rfl | rfl | rfl | rfl <;> rfl) (by rw [Lib.byteCells_length]; omega) (by simp; omega)).mono ?_
        rintro e w6 ⟨⟨r6, rfl⟩, v6, hb6, hR6⟩
        have hlr : ∀ k, v.ownBlock = some k → w1.heap.size ≤ k ∧ k < wr.heap.size := fun k e => hb.row.lt k e
        have h26 := hR6.holds (h24.alloc _) (by omega) (fun e => by have := hlr _ e; omega)
        have he : ∀ args w, (callFunc kn args).run Try.prog w = .ok (.enter kn args) w := by
          rcases hkn with rfl | rfl
          · exact enters_of Try.func69 (by kernel_rfl) rfl
          · exact enters_of Try.func71 (by kernel_rfl) rfl
        have hs6 := hR6.size
        rw [World.size_alloc] at hs6
        have hbo6 := fun W => hbo kn kr kz W w3 w4 hkv
        clear hbo hki hct hkn hrng hW1 h1 hB1 hO2 hB2 h2 hB3 hB4 hc24 h24 hkv
        go_wp2_with (first
          | (refine wpList_ldPC rfl _ rfl rfl h26 hC ?_)
          | (go_at_call 56; refine (writeS_any _ (hb6.below hB7) (by simp only [List.length_append, Lib.byteCells_length, List.length_cons, List.length_nil]; show _ + bo.toArray.size ≤ _; simp; omega) (by have := hB7.size; omega)).mono ?_; rintro e w8 ⟨⟨r8, rfl⟩, v8, hb8, hR8⟩)
          | (refine (hbo6 _).mono ?_; rintro e w7 ⟨rfl, hB7⟩))
        have hlr6 : ∀ k, v6.ownBlock = some k → w1.heap.size ≤ k := fun k e => (hb6.row.lt k e).1
        have hs7 := hB7.size
        have hBall : Below w.heap.size wr w8 := by
          refine Below.trans (Below.trans (Below.trans (hBr4.mono (by omega)) ((below_new1 w4 _).mono (by omega))) (hR6.below (Nat.le_refl _) (fun k e => by have := hlr k e; omega) (by simp; omega))) (Below.trans (hB7.mono (by omega)) (hR8.below (Nat.le_refl _) (fun k e => by have := hlr6 k e; omega) (by omega)))
        have hg8 : w8.heap[g]? = wr.heap[g]? := by
          rw [hR8.block g (by omega) (by omega) (fun e => by have := hlr6 g e; omega), hB7.block g (by omega), hR6.block g (by simp; omega) (by omega) (fun e => by have := hlr g e; omega), Below.heap_alloc _ _ _ (by omega), hBr4.block g (by omega)]
        have hsz8 : w1.heap.size ≤ w8.heap.size := by have := hR8.size; omega
        go_roundw
        case rel =>
          refine ⟨i + 1, v8, by simp, by omega, ?_, hin'.keep hg8, hsz8, hBr.trans hBall⟩
          rw [HN.out, HP.out]
          have e : Lib.byteCells (doneB M us i ++ ([UInt8.ofNat (u / 65536), UInt8.ofNat (u / 256), UInt8.ofNat u, UInt8.ofNat (ct - 1)] ++ bo)) = Lib.byteCells (doneB M us i) ++ [.int .u8 ((u : Int) / 65536), .int .u8 ((u : Int) / 256 % 256), .int .u8 ((u : Int) % 256), .int .u8 ((ct : Int) - 1)] ++ Lib.strCells ⟨bo.toArray⟩ := by
            unfold Lib.byteCells Lib.strCells
            simp
            omega
          rw [e]
          exact hb8
        case measure => simp [intOf]; omega
      · have hii : ¬ (i : Int) < us.length := by omega
        obtain rfl : i = us.length := by omega
        rw [doneB_all] at hb
        have hS1 := hS wr _ _ _ hb (by omega)
        clear hS
        go_wp2_with (first | (go_at_call 57; refine hS1.mono ?_; rintro e w2 ⟨rfl, hB2⟩))
        go_ret
        exact ⟨rfl, hBr.trans hB2⟩
end Go.Proofs.Ytdfpnpjdiebniaa
