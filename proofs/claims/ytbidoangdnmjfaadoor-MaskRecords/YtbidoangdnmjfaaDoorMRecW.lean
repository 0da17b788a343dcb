/-
  The program's Record.
-/
import Derived.Test.YtbidoangdnmjfaaDoorMByteW
namespace Go.Proofs.YtbidoangdnmjfaaDoor
open Go Go.RowKit Go.Lib

theorem twoB_cells {w : World} {g : Nat} {t : TypeId} {m : Nat} (hm : m < 65536) {a b : Value} (h : Holds w g t #[a, b]) (ha : a = .int .u8 ((m : Int) / 2 ^ 8)) (hb : b = .int .u8 ((m : Int) % 256)) : ∀ j u, ((twoB m).map u8v)[j]? = some u → w.cell? ⟨g, j, none⟩ = some u := fun j u hu => by
  have h8 : (m : Int) / 2 ^ 8 = (m : Int) / 2 ^ 8 % 256 := by omega
  rw [h.cell j, ha, hb, h8, hi_byte, lo_byte]
  match j with
  | 0 => exact hu
  | 1 => exact hu
  | k + 2 => simp [twoB] at hu
theorem idx3 (s t h : Nat) (w : World) :
    (Instr.index 53 (.agg #[.int .u16 (s : Nat), .int .u16 (t : Nat), .int .u16 (h : Nat)]) (.int .i64 0)).run Tryd.prog w = .ok (.int .u16 (s : Nat)) w ∧
    (Instr.index 53 (.agg #[.int .u16 (s : Nat), .int .u16 (t : Nat), .int .u16 (h : Nat)]) (.int .i64 1)).run Tryd.prog w = .ok (.int .u16 (t : Nat)) w ∧
    (Instr.index 53 (.agg #[.int .u16 (s : Nat), .int .u16 (t : Nat), .int .u16 (h : Nat)]) (.int .i64 2)).run Tryd.prog w = .ok (.int .u16 (h : Nat)) w := by
  have hz : (Go.sizeOf 22).run Tryd.prog w = .ok 1 w := by simp [go_sem]
  have ha : (isAgg 22).run Tryd.prog w = .ok false w := by simp [go_sem]
  refine ⟨?_, ?_, ?_⟩ <;> simp [Instr.index, asIntOf, Sem.run_bind, run_underlying Tryd.underlying53, Result.andThen, hz, part, ha]
theorem hash_cells {w : World} {g : Nat} {t : TypeId} {x : H32} (h : Holds w g t (hcl x).toArray) : ∀ j u, (x.1.map u8v)[j]? = some u → w.cell? ⟨g, j, none⟩ = some u := fun j u hu => by
  rw [h.cell j]
  rw [← hcl_u8v] at hu
  simpa using hu
/-- Where a walk stops. -/
def HaltM (p : Prop) : Prop := p
theorem HaltM.out {p : Prop} (h : HaltM p) : p := h
theorem below_fresh {wr w1 w5 : World} {o : Obj} (h : Below w1.heap.size (wr.alloc o) w5) (hs : w1.heap.size ≤ wr.heap.size) : Below w1.heap.size wr w5 := ((Below.refl _ wr).alloc hs o).trans h
/-- What Record tells. -/
def recE (s t h : Nat) (L : List H32) : ByteArray := if chkM s t h L.length = 0 then ⟨(recB s t h L).toArray⟩ else ⟨#[]⟩
theorem chkM_01 (s t h n : Nat) : chkM s t h n = 0 ∨ chkM s t h n = 1 := by unfold chkM; split <;> simp
set_option maxRecDepth 8000 in
set_option maxHeartbeats 2000000 in
theorem mrecord_any {w : World} {s t h : Nat} {v : Value} {L : List H32} (hs : s < 65536) (ht : t < 65536) (hh : h < 65536) (hv : HashesAt w v L) (hl : L.length ≤ 1000) (hT : DbAt w) :
    Calls Tryd.prog 9 #[brV s t h v] w fun e w' => e = .returned (.tuple #[.string (recE s t h L), .int .i64 (chkM s t h L.length)]) ∧ Below w.heap.size w w' := by
  obtain ⟨p, c, rfl⟩ := hv.shape
  obtain ⟨n, hn⟩ : ∃ n, L.length = n := ⟨_, rfl⟩
  have HN : Hid (L.length = n) := hn
  rw [hn] at hv hl ⊢
  have HE : Hid (recE s t h L = if chkM s t h n = 0 then ⟨(recB s t h L).toArray⟩ else ⟨#[]⟩) := by unfold recE; rw [hn]; rfl
  clear hn
  obtain ⟨W0, g, hW0, hg, hB0, hb0, c0, c1, c2, c3⟩ := box_br w s t h (.slice p n c)
  have hgH : Hid (w.heap.size = g) := hg
  have hck := mcheck_any (s := s) (t := t) (h := h) (n := n) (c := c) (p := p) hs ht hh (by omega) (hT.below hB0)
  have h01 := chkM_01 s t h n
  generalize chkM s t h n = R at hck HE h01 ⊢
  have hni : (n : Int) ≤ 1000 := by omega
  unfold brV at hck ⊢
  have HV : Hid (HashesAt w (.slice p n c) L) := hv
  have hWH : Hid (Below w.heap.size w W0 ∧ Holds W0 g 25 (brC s t h (.slice p n c))) := ⟨hB0, hb0⟩
  clear hv hT hB0 hb0
  go_enter Tryd.func9, Tryd.ntmps9
  go_wp2_with fail
  refine hck.mono ?_
  rintro e w1 ⟨rfl, hB1⟩
  have hb1 := below_holds hB1 hWH.out.2
  have hBw1 := below_new hWH.out.1 hB1
  have d0 : w1.cell? ⟨g, 0, none⟩ = some (.int .u16 (s : Nat)) := hb1.cell 0
  have d1 : w1.cell? ⟨g, 1, none⟩ = some (.int .u16 (t : Nat)) := hb1.cell 1
  have d2 : w1.cell? ⟨g, 2, none⟩ = some (.int .u16 (h : Nat)) := hb1.cell 2
  have hgl := hb1.lt
  have H1 : Hid (Below w.heap.size w w1 ∧ Holds w1 g 25 (brC s t h (.slice p n c))) := ⟨hBw1, hb1⟩
  clear hck hb1 hBw1 hB1 c0 c1 c2 c3 hWH
  rcases h01 with rfl | rfl
  · have HE2 : Hid (recE s t h L = ⟨(recB s t h L).toArray⟩) := by have := HE.out; rw [if_pos rfl] at this; exact this
    clear HE
    go_wp2_with fail
    go_loopw [5, 7, 22] (fun x _ y wr => ∃ l, OwnB wr w1.heap.size x l ∧ Below w1.heap.size w1 wr ∧ ((y = .int .i64 0 ∧ l = []) ∨ (y = .int .i64 1 ∧ l = twoB s) ∨ (y = .int .i64 2 ∧ l = twoB s ++ twoB t) ∨ (y = .int .i64 3 ∧ l = twoB s ++ twoB t ++ twoB h))) (fun _ _ y _ => 3 - (intOf y).toNat)
    case atStart => exact ⟨[], OwnB.nil _ _, Below.refl _ _, .inl ⟨rfl, rfl⟩⟩
    case round =>
      obtain ⟨l, ho, hB, hy⟩ := hrel
      obtain ⟨p5, c5, rfl⟩ := ho.shape
      obtain ⟨hx1, hx2, hx3⟩ := idx3 s t h wr
      have hB1 := hB.size
      rcases hy with ⟨rfl, rfl⟩ | ⟨rfl, rfl⟩ | ⟨rfl, rfl⟩ | ⟨rfl, rfl⟩
      · go_wp2_with (at_builtin; refine wpList_append_b rfl _ _ rfl (twoB s) rfl rfl rfl (ho.below0 (below_new1 wr _)) (twoB_cells hs (Holds.new wr _ _) (by simp) (by simp)) (by simp [twoB]) (by simp; omega) ?_; intro v5 w5 ho5 hk5 hB5; obtain ⟨p6, c6, rfl⟩ := ho5.shape)
        go_roundw
        case rel => exact ⟨_, ho5, hB.trans (below_fresh hB5 hB1), .inr (.inl ⟨rfl, rfl⟩)⟩
        case measure => simp [intOf]
      · go_wp2_with (at_builtin; refine wpList_append_b rfl _ _ rfl (twoB t) rfl rfl rfl (ho.below0 (below_new1 wr _)) (twoB_cells ht (Holds.new wr _ _) (by simp) (by simp)) (by simp [twoB]) (by simp; omega) ?_; intro v5 w5 ho5 hk5 hB5; obtain ⟨p6, c6, rfl⟩ := ho5.shape)
        go_roundw
        case rel => exact ⟨_, ho5, hB.trans (below_fresh hB5 hB1), .inr (.inr (.inl ⟨rfl, rfl⟩))⟩
        case measure => simp [intOf]
      · go_wp2_with (at_builtin; refine wpList_append_b rfl _ _ rfl (twoB h) rfl rfl rfl (ho.below0 (below_new1 wr _)) (twoB_cells hh (Holds.new wr _ _) (by simp) (by simp)) (by simp [twoB]) (by simp; omega) ?_; intro v5 w5 ho5 hk5 hB5; obtain ⟨p6, c6, rfl⟩ := ho5.shape)
        go_roundw
        case rel => exact ⟨_, ho5, hB.trans (below_fresh hB5 hB1), .inr (.inr (.inr ⟨rfl, rfl⟩))⟩
        case measure => simp [intOf]
      · obtain ⟨l, hl0⟩ : ∃ l, l = twoB s ++ twoB t ++ twoB h := ⟨_, rfl⟩
        have HL0 : Hid (l = twoB s ++ twoB t ++ twoB h) := hl0
        have hll : l.length = 6 := by rw [hl0]; rfl
        rw [← hl0] at ho
        have hb3 := below_holds hB H1.out.2
        have d3 : wr.cell? ⟨g, 3, none⟩ = some (.slice p n c) := hb3.cell 3
        have HO : Hid (OwnB wr w1.heap.size (.slice p5 l.length c5) l ∧ Below w1.heap.size w1 wr) := ⟨by have := ho; rw [hl0] at this ⊢; exact this, hB⟩
        clear hl0 ho hB hb3 hx1 hx2 hx3
        go_wp2_with fail
        rename World => wo
        go_loopw [5, 9, 37] (fun x _ y wi => ∃ k : Nat, y = .int .i64 (k : Nat) ∧ k ≤ n ∧ OwnB wi w1.heap.size x (l ++ (L.take k).flatMap (·.1)) ∧ Below w1.heap.size w1 wi) (fun _ _ y _ => n - (intOf y).toNat)
        case atStart => exact ⟨0, rfl, Nat.zero_le _, by simpa [HL0.out] using HO.out.1, HO.out.2⟩
        case round =>
          obtain ⟨k, rfl, hk, ho, hB⟩ := hrel
          by_cases hkn : k < n
          · have hki : (k : Int) < n := by omega
            obtain ⟨x, hx⟩ : ∃ x, L[k]? = some x := ⟨_, List.getElem?_eq_getElem (by have := HN.out; omega)⟩
            have hBw := below_new H1.out.1 hB
            obtain ⟨b, o, rfl, hnn, hd⟩ := (HV.out.below hBw).at hx
            clear hnn
            have HT : Hid ((L.take (k + 1)).flatMap (·.1) = (L.take k).flatMap (·.1) ++ x.1) := flat_take hx
            have hlk : ((L.take k).flatMap (·.1)).length ≤ 32000 := by
              rw [flat_len, List.length_take]
              have : min k L.length ≤ 1000 := by omega
              omega
            obtain ⟨W3, hW3⟩ : ∃ W3, World.alloc wr (.cells zero32 43) = W3 := ⟨_, rfl⟩
            have hz : Holds W3 wr.heap.size 43 (hcl zeroH).toArray := by rw [← hW3]; exact Holds.new _ _ _
            have hB3 : Below wr.heap.size wr W3 := by rw [← hW3]; exact below_new1 _ _
            rw [zero32_eq] at hW3
            generalize (L.take k).flatMap (·.1) = K at ho HT hlk ⊢
            obtain ⟨M, hM⟩ : ∃ M, M = l ++ K := ⟨_, rfl⟩
            have HM : Hid (M = l ++ K) := hM
            have hML : Hid (M.length + 32 ≤ 1000000) := by
              show _ ≤ _
              rw [hM, List.length_append]; omega
            rw [← hM] at ho
            clear hM hlk
            obtain ⟨p5, c5, rfl⟩ := ho.shape
            have hxl : x.1.length = 32 := x.2
            obtain ⟨m, hm⟩ : ∃ m, M.length = m := ⟨_, rfl⟩
            have Hm : Hid (M.length = m) := hm
            rw [hm] at ho ⊢
            clear hm
            have hB1 := hB.size
            go_wp2_with (first
              | (refine wpList_ldH rfl _ rfl rfl hd ?_)
              | (refine wpList_stH rfl _ _ rfl rfl rfl hz ?_; intro W4 h4 hO4 hs4)
              | (at_builtin; refine HaltM.out ?_))
            unfold HaltM
            refine wpList_append_b rfl _ _ rfl x.1 hxl rfl rfl (ho.below0 (Only.fresh hB3 hO4 (Nat.le_refl _))) (hash_cells h4) ?_ ?_ ?_
            · have := hML.out; rw [hxl]; omega
            · have := hB3.size; omega
            intro v5 w5 ho5 hk5 hB5
            obtain ⟨p6, c6, rfl⟩ := ho5.shape
            rw [List.length_append, hxl] at ho5
            rw [List.length_append, hxl]
            go_wp2_with fail
            go_roundw
            case rel => exact ⟨k + 1, by go_num, by omega, by rw [HT.out, ← List.append_assoc, ← HM.out]; exact ho5, hB.trans (((Only.fresh hB3 hO4 (Nat.le_refl _)).mono hB1).trans hB5)⟩
            case measure => simp [intOf]; omega
          · have hki : ¬ (k : Int) < n := by omega
            obtain rfl : k = n := by omega
            have HR : Hid (l ++ (L.take k).flatMap (·.1) = recB s t h L) := by
              show _ = _
              rw [← HN.out, List.take_length, HL0.out]; rfl
            rw [HR.out] at ho
            have hpos : 0 < (recB s t h L).length := by rw [recB_len]; omega
            have hcv := convertB ho hpos
            obtain ⟨p5, c5, rfl⟩ := ho.shape
            have HBF : Hid (Below w.heap.size w wr) := below_new H1.out.1 hB
            clear ho hB
            go_wp2_with fail
            go_ret2
            rw [← hgH.out]
            exact ⟨by rw [HE2.out]; rfl, HBF.out⟩
  · have HE2 : Hid (recE s t h L = ⟨#[]⟩) := by have := HE.out; rw [if_neg (by decide)] at this; exact this
    clear HE
    go_wp2_with fail
    go_ret2
    exact ⟨by rw [HE2.out]; rfl, H1.out.1⟩
end Go.Proofs.YtbidoangdnmjfaaDoor
