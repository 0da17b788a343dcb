/-
  RlpRows walked.
-/
import Derived.Test.YtikpmafmmjfioaaRRPure
import Derived.Deep.QuietTactic
import Derived.BigQuiet
namespace Go.Proofs.Ytikpmafmmjfioaa
open Go Go.RowKit

theorem apart_row {vp vt : Value} (h : ∀ g, vp.ownBlock = some g → vt.ownBlock ≠ some g) : vt.ownBlock = none ∨ vt.ownBlock ≠ vp.ownBlock := by
  cases ht : vt.ownBlock with
  | none => exact .inl rfl
  | some g => right; intro e; exact h g e.symm ht
theorem apart5 {vp vt v5 : Value} {n n' : Nat} (AP : ∀ g, vp.ownBlock = some g → vt.ownBlock ≠ some g) (ht : ∀ g, vt.ownBlock = some g → g < n) (h : v5.ownBlock = vp.ownBlock ∨ v5.ownBlock = some n') (hn : n ≤ n') :
    ∀ g, v5.ownBlock = some g → vt.ownBlock ≠ some g := fun g hg q => by
  rcases h with h | h
  · exact AP g (h ▸ hg) q
  · rw [h] at hg; injection hg with hg; have := ht g q; omega
theorem apart6 {vt v5 v6 : Value} {n n' : Nat} (AP : ∀ g, v5.ownBlock = some g → vt.ownBlock ≠ some g) (ht : ∀ g, v5.ownBlock = some g → g < n) (h : v6.ownBlock = vt.ownBlock ∨ v6.ownBlock = some n') (hn : n ≤ n') :
    ∀ g, v5.ownBlock = some g → v6.ownBlock ≠ some g := fun g hg q => by
  rcases h with h | h
  · exact AP g hg (h ▸ q)
  · rw [h] at q; injection q with q; have := ht g hg; omega
theorem own_slice {w : World} {base n : Nat} {e : TypeId} {v : Value} {xs : List Value} (h : w.ownsRow base e 1 v n xs) : ∃ a c, v = .slice a n c ∧ ∀ i (hi : i < xs.length), ∃ g, a = some ⟨g, 0, none⟩ ∧ g < w.heap.size ∧ w.cell? ⟨g, i, none⟩ = some xs[i] := by
  obtain ⟨h1, h2⟩ := reads_owned h
  rcases h2 with ⟨rfl, h0⟩ | ⟨g, c, rfl, _, hg, hc, hcell⟩
  · exact ⟨none, 0, by rw [h0], fun i hi => by omega⟩
  · exact ⟨some ⟨g, 0, none⟩, c, rfl, fun i hi => ⟨g, rfl, hg, hcell i hi⟩⟩
theorem own_lt {w : World} {base size n : Nat} {e : TypeId} {v : Value} {xs : List Value} (h : w.ownsRow base e size v n xs) : ∀ g, v.ownBlock = some g → base ≤ g ∧ g < w.heap.size := fun g hg => h.lt g hg

set_option maxRecDepth 8000 in
set_option maxHeartbeats 8000000 in
theorem rrows_walk (v u : Value) (ps : List ByteArray) (bs : List Bool) (w : World) (hx : Texts w v ps) (hy : Flags w u bs) (_ : ps.length ≤ 9223372036854775807) (_ : bs.length ≤ 9223372036854775807) :
    Calls Try.prog 7 #[v, u] w fun e w' => e = .returned (.bool true) ∧ Below w.heap.size w w' := by
  obtain ⟨i8, hi, hiz, his, hib⟩ := infoStr
  have HI : Hid (Try.prog.info? 9 = some i8 ∧ i8.zero = some (.string ⟨#[]⟩) ∧ i8.size = 1 ∧ i8.bytes = 16) := ⟨hi, hiz, his, hib⟩
  clear hi hiz his hib
  obtain ⟨base, cap, rfl, hc⟩ := hx
  obtain ⟨base2, cap2, rfl, hc2⟩ := hy
  have HC : Hid (∀ i (hi : i < ps.length), ∃ c o, base = some ⟨c, o, none⟩ ∧ c < w.heap.size ∧ w.cell? ⟨c, o + i, none⟩ = some (.string ps[i])) := hc
  have HC2 : Hid (∀ i (hi : i < bs.length), ∃ c o, base2 = some ⟨c, o, none⟩ ∧ c < w.heap.size ∧ w.cell? ⟨c, o + i, none⟩ = some (.bool bs[i])) := hc2
  clear hc hc2
  go_enter Try.func7, Try.ntmps7
  go_wp2_with fail
  refine (awake_any _).mono ?_
  rintro e w1 ⟨rfl, hB1⟩
  go_wp2_with fail
  go_loopw [6, 7, 8, 9] (fun a6 a7 a8 a9 wr => ∃ (i : Nat) (A : ByteArray) (vp vt : Value) (qs : List (ByteArray × Bool)), i ≤ 40 ∧ qs.length ≤ i ∧ Hid (∀ q ∈ qs, q.1.size ≤ 300) ∧ a6 = vp ∧ a7 = vt ∧ a8 = .string A ∧ a9 = .int .i64 i ∧ Hid (A.data.toList = encs qs) ∧ Below w.heap.size w wr ∧
      Hid (wr.ownsRow w.heap.size 9 1 vp qs.length (strs (qs.map encS))) ∧ Hid (wr.ownsRow w.heap.size 9 1 vt qs.length (strs (qs.map (·.1)))) ∧ Hid (∀ g, vp.ownBlock = some g → vt.ownBlock ≠ some g)) (fun _ _ _ a9 _ => 40 - (intOf a9).toNat)
  case atStart => exact ⟨0, _, _, _, [], by omega, by simp, fun q hq => by simp at hq, rfl, rfl, rfl, rfl, rfl, hB1, World.ownsRow_nil _ _ _ _, World.ownsRow_nil _ _ _ _, fun g hg => by cases hg⟩
  case round =>
    clear hB1
    obtain ⟨i, A, vp, vt, qs, hi40, hqi, HQ, hvp, hvt, rfl, rfl, HA, hB, OP, OT, AP⟩ := hrel
    have hvp2 := hvp.symm
    have hvt2 := hvt.symm
    clear hvp hvt
    subst hvp2
    subst hvt2
    have hAs : A.size ≤ 12720 := by have h1 := encs_len qs HQ.out; have h2 := HA.out; rw [← sizeB, h2]; omega
    by_cases hlt : i < ps.length ∧ i < 40
    · obtain ⟨hlt, hlt2⟩ := hlt
      have hli : (i : Int) < ps.length := by omega
      have hli2 : (i : Int) < 40 := by omega
      have hi0 : (0 : Int) ≤ i := by omega
      obtain ⟨c, o, rfl, hcl, hcw⟩ := HC.out i hlt
      obtain ⟨p, hp⟩ : ∃ p, p = ps[i] := ⟨_, rfl⟩
      rw [← hp] at hcw
      have HCW : Hid (c < w.heap.size ∧ w.cell? ⟨c, o + i, none⟩ = some (.string p)) := ⟨hcl, hcw⟩
      have hck : wr.cell? ⟨c, o + i, none⟩ = some (.string p) := by rw [hB.cell (p := ⟨c, o + i, none⟩) hcl]; exact hcw
      clear hp hcl hcw
      by_cases hlong : 300 < p.size
      · have hloi : (300 : Int) < p.size := by omega
        go_wp2_with fail
        go_roundw
        case rel => exact ⟨i + 1, A, vp, vt, qs, by omega, by omega, HQ, rfl, rfl, rfl, rfl, HA, hB, OP, OT, AP⟩
        case measure => simp [intOf]; omega
      · have hloi : ¬ (300 : Int) < p.size := by omega
        go_wp2_with fail
        refine (bytes_any p _ (by omega)).mono ?_
        rintro e w2 ⟨rfl, h2⟩
        have hB2 := hB.trans (h2.mono hB.size)
        have hck2 : w2.cell? ⟨c, o + i, none⟩ = some (.string p) := by rw [hB2.cell (p := ⟨c, o + i, none⟩) HCW.out.1]; exact HCW.out.2
        clear hck
        rcases (show (¬ i < bs.length) ∨ (∃ h : i < bs.length, bs[i] = false) ∨ (∃ h : i < bs.length, bs[i] = true) from by
          by_cases q : i < bs.length
          · cases hb : bs[i] with
            | false => exact .inr (.inl ⟨q, hb⟩)
            | true => exact .inr (.inr ⟨q, hb⟩)
          · exact .inl q) with hbi | ⟨hbi, hbv⟩ | ⟨hbi, hbv⟩
        · have hbii : ¬ (i : Int) < bs.length := by omega
          obtain ⟨E, hE⟩ : ∃ E, E = encS (p, false) := ⟨_, rfl⟩
          have hEs : E.size ≤ 318 := by have := enc1_len (p, false) (by show p.size ≤ 300; omega); rw [hE]; exact this
          have hEE : (⟨(bytesL p.data.toList).toArray⟩ : ByteArray) = E := by rw [hE]; rfl
          rw [hEE]
          have HE : Hid (E = encS (p, false)) := hE
          clear hE hEE
          have OPW : Hid (w2.ownsRow w.heap.size 9 1 vp qs.length (strs (qs.map encS))) := ownsRow_below OP.out h2
          have OTW : Hid (w2.ownsRow w.heap.size 9 1 vt qs.length (strs (qs.map (·.1)))) := ownsRow_below OT.out h2
          have HBW : Hid (Below w.heap.size w w2) := hB.trans (h2.mono hB.size)
          have hck3 : w2.cell? ⟨c, o + i, none⟩ = some (.string p) := by rw [HBW.out.cell (p := ⟨c, o + i, none⟩) HCW.out.1]; exact HCW.out.2
          have hAi : (A.size : Int) ≤ 12720 := by omega
          have hEi : (E.size : Int) ≤ 318 := by omega
          go_wp2_with (first
            | (refine wpList_append_own2 _ rfl _ _ 25 rfl w.heap.size 9 i8 (.string ⟨#[]⟩) 1 16 underStrings HI.out.1 HI.out.2.1 HI.out.2.2.1 HI.out.2.2.2 rfl (by omega) vp qs.length (strs (qs.map encS)) rfl (World.ownsRow.alloc OPW.out _) ⟨w2.heap.size, 0, none⟩ 1 1 [.string E] rfl rfl (one_str w2 _) (by intro u hu; simp at hu; subst hu; rfl) (by omega) (by unfold maxLen; omega) (by omega) (by rw [World.size_alloc]; have := HBW.out.size; omega) ?_
               intro v5 w5 own5 gr5 wh5
               have HB5 : Hid (Below w.heap.size w w5) := (HBW.out.alloc HBW.out.size _).grown gr5 (by rw [World.size_alloc]; have := HBW.out.size; omega) (fun k hk => (own_lt OPW.out k hk).1)
               have OT5 : Hid (w5.ownsRow w.heap.size 9 1 vt qs.length (strs (qs.map (·.1)))) := (World.ownsRow.alloc OTW.out _).kept gr5 (apart_row AP.out)
               have hck5 : w5.cell? ⟨c, o + i, none⟩ = some (.string p) := by rw [HB5.out.cell (p := ⟨c, o + i, none⟩) HCW.out.1]; exact HCW.out.2)
            | (refine wpList_append_own2 _ rfl _ _ 25 rfl w.heap.size 9 i8 (.string ⟨#[]⟩) 1 16 underStrings HI.out.1 HI.out.2.1 HI.out.2.2.1 HI.out.2.2.2 rfl (by omega) vt qs.length (strs (qs.map (·.1))) rfl (World.ownsRow.alloc OT5.out _) ⟨w5.heap.size, 0, none⟩ 1 1 [.string p] rfl rfl (one_str w5 _) (by intro u hu; simp at hu; subst hu; rfl) (by omega) (by unfold maxLen; omega) (by omega) (by rw [World.size_alloc]; have := HB5.out.size; omega) ?_
               intro v6 w6 own6 gr6 wh6)
            | fail)
          have hwl := own_lt OTW.out
          have A5 : ∀ g, v5.ownBlock = some g → vt.ownBlock ≠ some g := apart5 AP.out (fun g hg => (hwl g hg).2) wh5 (by rw [World.size_alloc]; omega)
          have A6 : ∀ g, v5.ownBlock = some g → v6.ownBlock ≠ some g := apart6 A5 (fun g hg => (own_lt own5 g hg).2) wh6 (by rw [World.size_alloc]; omega)
          have own5' : w6.ownsRow w.heap.size 9 1 v5 (qs.length + 1) (strs (qs.map encS) ++ [.string E]) := (World.ownsRow.alloc own5 _).kept gr6 (apart_row fun g hg q => A5 g q hg)
          have hB6 : Below w.heap.size w w6 := (HB5.out.alloc HB5.out.size _).grown gr6 (by rw [World.size_alloc]; have := HB5.out.size; omega) (fun k hk => (own_lt OTW.out k hk).1)
          refine ⟨⟨i + 1, A ++ E, v5, v6, qs ++ [(p, false)], by omega, by rw [List.length_append, List.length_singleton]; omega, fun q hq => ?_, rfl, rfl, rfl, by congr 1, ?_, hB6, ?_, ?_, A6⟩, ?_⟩
          · rcases List.mem_append.mp hq with r | r
            · exact HQ.out q r
            · simp at r; subst r; show p.size ≤ 300; omega
          · show (A ++ E).data.toList = _
            rw [encs_snoc, ← HA.out, HE.out]
            obtain ⟨a, rfl⟩ := exists_list A
            rw [encS, ByteArray.mk_append_mk]
          · show w6.ownsRow _ _ _ _ _ _
            rw [List.map_append, List.map_singleton, strs_snoc, List.length_append, List.length_singleton, ← HE.out]; exact own5'
          · show w6.ownsRow _ _ _ _ _ _
            rw [List.map_append, List.map_singleton, strs_snoc, List.length_append, List.length_singleton]; exact own6
          · simp [intOf]; omega
        · have hbii : (i : Int) < bs.length := by omega
          obtain ⟨c2, o2, rfl, hc2l, hc2w⟩ := HC2.out i hbi
          rw [hbv] at hc2w
          have hckb : w2.cell? ⟨c2, o2 + i, none⟩ = some (.bool false) := by rw [hB2.cell (p := ⟨c2, o2 + i, none⟩) hc2l]; exact hc2w
          clear hbv hc2w
          obtain ⟨E, hE⟩ : ∃ E, E = encS (p, false) := ⟨_, rfl⟩
          have hEs : E.size ≤ 318 := by have := enc1_len (p, false) (by show p.size ≤ 300; omega); rw [hE]; exact this
          have hEE : (⟨(bytesL p.data.toList).toArray⟩ : ByteArray) = E := by rw [hE]; rfl
          rw [hEE]
          have HE : Hid (E = encS (p, false)) := hE
          clear hE hEE
          have OPW : Hid (w2.ownsRow w.heap.size 9 1 vp qs.length (strs (qs.map encS))) := ownsRow_below OP.out h2
          have OTW : Hid (w2.ownsRow w.heap.size 9 1 vt qs.length (strs (qs.map (·.1)))) := ownsRow_below OT.out h2
          have HBW : Hid (Below w.heap.size w w2) := hB.trans (h2.mono hB.size)
          have hck3 : w2.cell? ⟨c, o + i, none⟩ = some (.string p) := by rw [HBW.out.cell (p := ⟨c, o + i, none⟩) HCW.out.1]; exact HCW.out.2
          have hAi : (A.size : Int) ≤ 12720 := by omega
          have hEi : (E.size : Int) ≤ 318 := by omega
          go_wp2_with (first
            | (refine wpList_append_own2 _ rfl _ _ 25 rfl w.heap.size 9 i8 (.string ⟨#[]⟩) 1 16 underStrings HI.out.1 HI.out.2.1 HI.out.2.2.1 HI.out.2.2.2 rfl (by omega) vp qs.length (strs (qs.map encS)) rfl (World.ownsRow.alloc OPW.out _) ⟨w2.heap.size, 0, none⟩ 1 1 [.string E] rfl rfl (one_str w2 _) (by intro u hu; simp at hu; subst hu; rfl) (by omega) (by unfold maxLen; omega) (by omega) (by rw [World.size_alloc]; have := HBW.out.size; omega) ?_
               intro v5 w5 own5 gr5 wh5
               have HB5 : Hid (Below w.heap.size w w5) := (HBW.out.alloc HBW.out.size _).grown gr5 (by rw [World.size_alloc]; have := HBW.out.size; omega) (fun k hk => (own_lt OPW.out k hk).1)
               have OT5 : Hid (w5.ownsRow w.heap.size 9 1 vt qs.length (strs (qs.map (·.1)))) := (World.ownsRow.alloc OTW.out _).kept gr5 (apart_row AP.out)
               have hck5 : w5.cell? ⟨c, o + i, none⟩ = some (.string p) := by rw [HB5.out.cell (p := ⟨c, o + i, none⟩) HCW.out.1]; exact HCW.out.2)
            | (refine wpList_append_own2 _ rfl _ _ 25 rfl w.heap.size 9 i8 (.string ⟨#[]⟩) 1 16 underStrings HI.out.1 HI.out.2.1 HI.out.2.2.1 HI.out.2.2.2 rfl (by omega) vt qs.length (strs (qs.map (·.1))) rfl (World.ownsRow.alloc OT5.out _) ⟨w5.heap.size, 0, none⟩ 1 1 [.string p] rfl rfl (one_str w5 _) (by intro u hu; simp at hu; subst hu; rfl) (by omega) (by unfold maxLen; omega) (by omega) (by rw [World.size_alloc]; have := HB5.out.size; omega) ?_
               intro v6 w6 own6 gr6 wh6)
            | fail)
          have hwl := own_lt OTW.out
          have A5 : ∀ g, v5.ownBlock = some g → vt.ownBlock ≠ some g := apart5 AP.out (fun g hg => (hwl g hg).2) wh5 (by rw [World.size_alloc]; omega)
          have A6 : ∀ g, v5.ownBlock = some g → v6.ownBlock ≠ some g := apart6 A5 (fun g hg => (own_lt own5 g hg).2) wh6 (by rw [World.size_alloc]; omega)
          have own5' : w6.ownsRow w.heap.size 9 1 v5 (qs.length + 1) (strs (qs.map encS) ++ [.string E]) := (World.ownsRow.alloc own5 _).kept gr6 (apart_row fun g hg q => A5 g q hg)
          have hB6 : Below w.heap.size w w6 := (HB5.out.alloc HB5.out.size _).grown gr6 (by rw [World.size_alloc]; have := HB5.out.size; omega) (fun k hk => (own_lt OTW.out k hk).1)
          refine ⟨⟨i + 1, A ++ E, v5, v6, qs ++ [(p, false)], by omega, by rw [List.length_append, List.length_singleton]; omega, fun q hq => ?_, rfl, rfl, rfl, by congr 1, ?_, hB6, ?_, ?_, A6⟩, ?_⟩
          · rcases List.mem_append.mp hq with r | r
            · exact HQ.out q r
            · simp at r; subst r; show p.size ≤ 300; omega
          · show (A ++ E).data.toList = _
            rw [encs_snoc, ← HA.out, HE.out]
            obtain ⟨a, rfl⟩ := exists_list A
            rw [encS, ByteArray.mk_append_mk]
          · show w6.ownsRow _ _ _ _ _ _
            rw [List.map_append, List.map_singleton, strs_snoc, List.length_append, List.length_singleton, ← HE.out]; exact own5'
          · show w6.ownsRow _ _ _ _ _ _
            rw [List.map_append, List.map_singleton, strs_snoc, List.length_append, List.length_singleton]; exact own6
          · simp [intOf]; omega
        · have hbii : (i : Int) < bs.length := by omega
          obtain ⟨c2, o2, rfl, hc2l, hc2w⟩ := HC2.out i hbi
          rw [hbv] at hc2w
          have hckb : w2.cell? ⟨c2, o2 + i, none⟩ = some (.bool true) := by rw [hB2.cell (p := ⟨c2, o2 + i, none⟩) hc2l]; exact hc2w
          clear hbv hc2w
          go_wp2_with fail
          refine (bytes_any p _ (by omega)).mono ?_
          rintro e w3 ⟨rfl, h3⟩
          have h3' := h2.trans (h3.mono h2.size)
          go_wp2_with fail
          have hbl := bytesL_len p.data.toList
          rw [sizeB] at hbl
          refine (list_any w3.heap.size 0 1 [⟨(bytesL p.data.toList).toArray⟩] _ (fun j x hj => by
            match j, hj with
            | 0, hj => injection hj with hj; subst hj; rw [World.cell?_alloc_mark]; rfl
            | j + 1, hj => simp at hj) (by rw [World.size_alloc]; omega) (by simp) (by simp) (by simp [cat]; omega)).mono ?_
          rintro e w4 ⟨rfl, h4⟩
          have h4' : Below wr.heap.size wr w4 := (h3'.alloc h3'.size _).trans (h4.mono (by rw [World.size_alloc]; have := h3'.size; omega))
          rw [show cat [(⟨(bytesL p.data.toList).toArray⟩ : ByteArray)] = bytesL p.data.toList by simp [cat]]
          clear h3 h4 h3' hbl hck2 hckb
          obtain ⟨E, hE⟩ : ∃ E, E = encS (p, true) := ⟨_, rfl⟩
          have hEs : E.size ≤ 318 := by have := enc1_len (p, true) (by show p.size ≤ 300; omega); rw [hE]; exact this
          have hEE : (⟨(listL (bytesL p.data.toList)).toArray⟩ : ByteArray) = E := by rw [hE]; rfl
          rw [hEE]
          have HE : Hid (E = encS (p, true)) := hE
          clear hE hEE
          have OPW : Hid (w4.ownsRow w.heap.size 9 1 vp qs.length (strs (qs.map encS))) := ownsRow_below OP.out h4'
          have OTW : Hid (w4.ownsRow w.heap.size 9 1 vt qs.length (strs (qs.map (·.1)))) := ownsRow_below OT.out h4'
          have HBW : Hid (Below w.heap.size w w4) := hB.trans (h4'.mono hB.size)
          have hck3 : w4.cell? ⟨c, o + i, none⟩ = some (.string p) := by rw [HBW.out.cell (p := ⟨c, o + i, none⟩) HCW.out.1]; exact HCW.out.2
          have hAi : (A.size : Int) ≤ 12720 := by omega
          have hEi : (E.size : Int) ≤ 318 := by omega
          go_wp2_with (first
            | (refine wpList_append_own2 _ rfl _ _ 25 rfl w.heap.size 9 i8 (.string ⟨#[]⟩) 1 16 underStrings HI.out.1 HI.out.2.1 HI.out.2.2.1 HI.out.2.2.2 rfl (by omega) vp qs.length (strs (qs.map encS)) rfl (World.ownsRow.alloc OPW.out _) ⟨w4.heap.size, 0, none⟩ 1 1 [.string E] rfl rfl (one_str w4 _) (by intro u hu; simp at hu; subst hu; rfl) (by omega) (by unfold maxLen; omega) (by omega) (by rw [World.size_alloc]; have := HBW.out.size; omega) ?_
               intro v5 w5 own5 gr5 wh5
               have HB5 : Hid (Below w.heap.size w w5) := (HBW.out.alloc HBW.out.size _).grown gr5 (by rw [World.size_alloc]; have := HBW.out.size; omega) (fun k hk => (own_lt OPW.out k hk).1)
               have OT5 : Hid (w5.ownsRow w.heap.size 9 1 vt qs.length (strs (qs.map (·.1)))) := (World.ownsRow.alloc OTW.out _).kept gr5 (apart_row AP.out)
               have hck5 : w5.cell? ⟨c, o + i, none⟩ = some (.string p) := by rw [HB5.out.cell (p := ⟨c, o + i, none⟩) HCW.out.1]; exact HCW.out.2)
            | (refine wpList_append_own2 _ rfl _ _ 25 rfl w.heap.size 9 i8 (.string ⟨#[]⟩) 1 16 underStrings HI.out.1 HI.out.2.1 HI.out.2.2.1 HI.out.2.2.2 rfl (by omega) vt qs.length (strs (qs.map (·.1))) rfl (World.ownsRow.alloc OT5.out _) ⟨w5.heap.size, 0, none⟩ 1 1 [.string p] rfl rfl (one_str w5 _) (by intro u hu; simp at hu; subst hu; rfl) (by omega) (by unfold maxLen; omega) (by omega) (by rw [World.size_alloc]; have := HB5.out.size; omega) ?_
               intro v6 w6 own6 gr6 wh6)
            | fail)
          have hwl := own_lt OTW.out
          have A5 : ∀ g, v5.ownBlock = some g → vt.ownBlock ≠ some g := apart5 AP.out (fun g hg => (hwl g hg).2) wh5 (by rw [World.size_alloc]; omega)
          have A6 : ∀ g, v5.ownBlock = some g → v6.ownBlock ≠ some g := apart6 A5 (fun g hg => (own_lt own5 g hg).2) wh6 (by rw [World.size_alloc]; omega)
          have own5' : w6.ownsRow w.heap.size 9 1 v5 (qs.length + 1) (strs (qs.map encS) ++ [.string E]) := (World.ownsRow.alloc own5 _).kept gr6 (apart_row fun g hg q => A5 g q hg)
          have hB6 : Below w.heap.size w w6 := (HB5.out.alloc HB5.out.size _).grown gr6 (by rw [World.size_alloc]; have := HB5.out.size; omega) (fun k hk => (own_lt OTW.out k hk).1)
          refine ⟨⟨i + 1, A ++ E, v5, v6, qs ++ [(p, true)], by omega, by rw [List.length_append, List.length_singleton]; omega, fun q hq => ?_, rfl, rfl, rfl, by congr 1, ?_, hB6, ?_, ?_, A6⟩, ?_⟩
          · rcases List.mem_append.mp hq with r | r
            · exact HQ.out q r
            · simp at r; subst r; show p.size ≤ 300; omega
          · show (A ++ E).data.toList = _
            rw [encs_snoc, ← HA.out, HE.out]
            obtain ⟨a, rfl⟩ := exists_list A
            rw [encS, ByteArray.mk_append_mk]
          · show w6.ownsRow _ _ _ _ _ _
            rw [List.map_append, List.map_singleton, strs_snoc, List.length_append, List.length_singleton, ← HE.out]; exact own5'
          · show w6.ownsRow _ _ _ _ _ _
            rw [List.map_append, List.map_singleton, strs_snoc, List.length_append, List.length_singleton]; exact own6
          · simp [intOf]; omega
    · rcases (show (¬ i < ps.length) ∨ (i < ps.length ∧ ¬ i < 40) by omega) with hx1 | ⟨hx1, hx2⟩
      · have hli : ¬ (i : Int) < ps.length := by omega
        have hn40 : qs.length ≤ 40 := by omega
        obtain ⟨wz, hwz⟩ : ∃ wz, wz = wr := ⟨_, rfl⟩
        subst hwz
        obtain ⟨n, hn⟩ : ∃ n, n = qs.length := ⟨_, rfl⟩
        obtain ⟨X, hX⟩ : ∃ X : ByteArray, X = ⟨(listL (encs qs)).toArray⟩ := ⟨_, rfl⟩
        have hel := encs_len qs HQ.out
        have hXs : X.size ≤ 100000 := by have := listL_len (encs qs); rw [hX]; show (listL (encs qs)).length ≤ _; omega
        have hdec : decode X.data.toList = some (.item true [] (rowOf qs) .nil) := by rw [hX]; exact decode_encs qs HQ.out hn40
        have HD : Hid (decode X.data.toList = some (.item true [] (rowOf qs) .nil)) := hdec
        have HX : Hid (⟨(listL (encs qs)).toArray⟩ = X) := hX.symm
        have hrl := rowOf_len qs
        clear hX hdec
        obtain ⟨ap, cp, hvp, hcp⟩ := own_slice OP.out
        obtain ⟨at2, ct, hvt, hct⟩ := own_slice OT.out
        have HCP : Hid (∀ i (hi : i < (strs (qs.map encS)).length), ∃ g, ap = some ⟨g, 0, none⟩ ∧ g < wz.heap.size ∧ wz.cell? ⟨g, i, none⟩ = some (strs (qs.map encS))[i]) := hcp
        have HCT : Hid (∀ i (hi : i < (strs (qs.map (·.1))).length), ∃ g, at2 = some ⟨g, 0, none⟩ ∧ g < wz.heap.size ∧ wz.cell? ⟨g, i, none⟩ = some (strs (qs.map (·.1)))[i]) := hct
        clear hcp hct
        subst hvp
        subst hvt
        go_wp2_with fail
        refine (list_owned OP.out (by omega) (by rw [cat_encS]; omega)).mono ?_
        rintro e w2 ⟨rfl, h2⟩
        rw [cat_encS, HX.out]
        go_wp2_with fail
        refine (decode_any X _ hXs).mono ?_
        rintro e w3 ⟨he, h3⟩
        rw [HD.out] at he
        obtain ⟨a, cc, rfl, _, _, hl⟩ := he
        rw [hrl, ← hn]
        have HN : Hid (n = qs.length) := hn
        have HL : Hid (Lies w3 (fun k => w2.heap.size ≤ k ∧ k < w3.heap.size) (rowOf qs) a) := hl
        have HB3 : Hid (Below wz.heap.size wz w3) := h2.trans (h3.mono h2.size)
        have HBw : Hid (Below w.heap.size w w3) := hB.trans (HB3.out.mono hB.size)
        rw [← hn] at hn40 hqi
        have hni : (n : Int) ≤ 40 := by omega
        clear hn hl h2 h3 hrl hel hB OP OT AP HC HC2
        go_wp2_with fail
        obtain ⟨V, hV⟩ : ∃ V, V = w3.alloc (.cells #[.bool true, .string ⟨#[]⟩, .slice a n cc] 24) := ⟨_, rfl⟩
        obtain ⟨xb, hxb⟩ : ∃ xb, xb = w3.heap.size := ⟨_, rfl⟩
        rw [← hV, ← hxb]
        have HV : Hid (Holds V xb 24 #[.bool true, .string ⟨#[]⟩, .slice a n cc] ∧ Below w3.heap.size w3 V ∧ V.heap.size = w3.heap.size + 1 ∧ xb = w3.heap.size) := ⟨by rw [hV, hxb]; exact Holds.new _ _ _, by rw [hV]; exact (Below.refl _ _).alloc (Nat.le_refl _) _, by rw [hV, World.size_alloc], hxb⟩
        clear hV hxb
        go_loopw [8, 13] (fun a8 a13 wq => ∃ (k : Nat) (B : ByteArray), k ≤ n ∧ a8 = .string B ∧ a13 = .int .i64 k ∧ Hid (B.data.toList = encs (qs.drop k)) ∧ Below V.heap.size V wq) (fun _ a13 _ => n - (intOf a13).toNat)
        case atStart => exact ⟨0, A, by omega, rfl, rfl, by simp only [Hid]; rw [HA.out]; rfl, Below.refl _ _⟩
        case round =>
          obtain ⟨k, B, hk, rfl, rfl, HBd, hBq⟩ := hrel
          by_cases hkn : k < n
          · have hki : (k : Int) < n := by omega
            have hk0 : (0 : Int) ≤ k := by omega
            have hkq : k < qs.length := by have := HN.out; omega
            obtain ⟨t, f, hq⟩ : ∃ t f, qs[k] = (t, f) := ⟨_, _, rfl⟩
            have ht3 : t.size ≤ 300 := by have := HQ.out qs[k] (List.getElem_mem hkq); rw [hq] at this; exact this
            obtain ⟨E, hE⟩ : ∃ E, E = encS (t, f) := ⟨_, rfl⟩
            obtain ⟨R, hR⟩ : ∃ R : ByteArray, R = ⟨(encs (qs.drop (k + 1))).toArray⟩ := ⟨_, rfl⟩
            obtain ⟨P, hP⟩ : ∃ P : ByteArray, P = ⟨(payl (t, f)).toArray⟩ := ⟨_, rfl⟩
            have hBd : B.data.toList = enc1 (t, f) ++ encs (qs.drop (k + 1)) := by
              rw [HBd.out, List.drop_eq_getElem_cons hkq, encs_cons, hq]
            have hsp : split B.data.toList = some (payl (t, f), f, encs (qs.drop (k + 1))) := by rw [hBd]; exact split_enc (t, f) _ ht3
            have hsV : splitV (split B.data.toList) = .tuple #[.string P, .bool f, .string R, .int .i64 0] := by rw [hsp, hP, hR]; rfl
            have hBE : B.size = E.size + R.size := by
              rw [← sizeB, hBd, List.length_append, hE, hR]; rfl
            have hRd : Hid (R.data.toList = encs (qs.drop (k + 1))) := by simp only [Hid]; rw [hR]
            have hRs : R.size ≤ 20000 := by
              have h1 := encs_len (qs.drop (k + 1)) fun q hq => HQ.out q (List.mem_of_mem_drop hq)
              have h2 : (qs.drop (k + 1)).length ≤ 40 := by rw [List.length_drop]; have := HN.out; omega
              rw [← sizeB, hRd.out]; omega
            have hEs : E.size ≤ 318 := by have := enc1_len (t, f) ht3; rw [hE]; exact this
            have hBi : (B.size : Int) - E.size = R.size := by omega
            have hBs : B.size < 4611686018427387904 := by omega
            clear hBE
            have HSV : Hid (splitV (split B.data.toList) = .tuple #[.string P, .bool f, .string R, .int .i64 0]) := hsV
            have HP : Hid (P = ⟨(payl (t, f)).toArray⟩) := hP
            have cE : Hid (∃ g, ap = some ⟨g, 0, none⟩ ∧ g < wz.heap.size ∧ wz.cell? ⟨g, k, none⟩ = some (.string E)) := by
              obtain ⟨g, e1, e2, e3⟩ := HCP.out k (by rw [strs_length, List.length_map]; exact hkq)
              exact ⟨g, e1, e2, by rw [e3, hE]; simp [strs, hq]⟩
            have cT : Hid (∃ g, at2 = some ⟨g, 0, none⟩ ∧ g < wz.heap.size ∧ wz.cell? ⟨g, k, none⟩ = some (.string t)) := by
              obtain ⟨g, e1, e2, e3⟩ := HCT.out k (by rw [strs_length, List.length_map]; exact hkq)
              exact ⟨g, e1, e2, by rw [e3]; simp [strs, hq]⟩
            have hat := rowOf_at qs k hkq
            rw [hq] at hat
            obtain ⟨bk, o, a', c', rfl, hbk, p0, p1, p2, pl, pL⟩ := HL.out.get k (by rw [rowOf_len]; exact hkq)
            rw [hat] at p0 p1 p2 pl pL
            obtain ⟨gp, rfl, hgp, hEc⟩ := cE.out
            obtain ⟨gt, rfl, hgt, hTc⟩ := cT.out
            have HK : Hid (w3.cell? ⟨gp, k, none⟩ = some (.string E) ∧ w3.cell? ⟨gt, k, none⟩ = some (.string t) ∧ gp < w3.heap.size ∧ gt < w3.heap.size ∧ bk < w3.heap.size) := by
              have hz := HB3.out.size
              exact ⟨by rw [HB3.out.cell (p := ⟨gp, k, none⟩) hgp]; exact hEc, by rw [HB3.out.cell (p := ⟨gt, k, none⟩) hgt]; exact hTc, by omega, by omega, hbk.2⟩
            clear cE cT hEc hTc hgp hgt hP hR hE hsV hsp hBd hat HBd pl pL hbk HCP HCT HL
            cases f with
            | false =>
              dsimp only at p0 p1 p2
              rw [Nat.mul_comm 3 k] at p0 p1 p2
              have HR3 : Hid (w3.cell? ⟨bk, o + k * 3, none⟩ = some (.bool false) ∧ w3.cell? ⟨bk, o + k * 3 + 1, none⟩ = some (.string ⟨t.data.toList.toArray⟩) ∧ w3.cell? ⟨bk, o + k * 3 + 2, none⟩ = some (.slice a' 0 c')) := ⟨p0, p1, p2⟩
              clear p0 p1 p2
              go_wp2_with fail
              refine (split_any B _ hBs).mono ?_
              rintro e w4 ⟨rfl, h4⟩
              rw [HSV.out]
              have h4' : Below V.heap.size V w4 := hBq.trans (h4.mono hBq.size)
              have hx2 : w4.cell? ⟨xb, 2, none⟩ = some (.slice (some ⟨bk, o, none⟩) n cc) := by
                have h1 := HV.out.1
                rw [h4'.cell (p := ⟨xb, 2, none⟩) h1.lt, h1.cell 2]; rfl
              have hcw : ∀ b j, b < w3.heap.size → w4.cell? ⟨b, j, none⟩ = w3.cell? ⟨b, j, none⟩ := fun b j hb => by
                have h1 := HV.out
                rw [h4'.cell (p := ⟨b, j, none⟩) (by show b < _; rw [h1.2.2.1]; omega), h1.2.1.cell (p := ⟨b, j, none⟩) hb]
              have d0 : w4.cell? ⟨bk, o + k * 3, none⟩ = some (.bool false) := (hcw _ _ HK.out.2.2.2.2).trans HR3.out.1
              have d1 : w4.cell? ⟨bk, o + k * 3 + 1, none⟩ = some (.string ⟨t.data.toList.toArray⟩) := (hcw _ _ HK.out.2.2.2.2).trans HR3.out.2.1
              have d2 : w4.cell? ⟨bk, o + k * 3 + 2, none⟩ = some (.slice a' 0 c') := (hcw _ _ HK.out.2.2.2.2).trans HR3.out.2.2
              have HE4 : Hid (w4.cell? ⟨gp, k, none⟩ = some (.string E) ∧ w4.cell? ⟨gt, k, none⟩ = some (.string t) ∧ gp < w4.heap.size ∧ gt < w4.heap.size ∧ Below V.heap.size V w4) :=
                ⟨(hcw _ _ HK.out.2.2.1).trans HK.out.1, (hcw _ _ HK.out.2.2.2.1).trans HK.out.2.1, by have := HK.out.2.2.1; have := h4'.size; have := HV.out.2.2.1; omega, by have := HK.out.2.2.2.1; have := h4'.size; have := HV.out.2.2.1; omega, h4'⟩
              clear hcw h4 h4'
              go_wp2_with fail
              obtain ⟨U, hU⟩ : ∃ U, U = w4.alloc (.cells #[.bool false, .string t, .slice a' 0 c'] 24) := ⟨_, rfl⟩
              obtain ⟨yb, hyb⟩ : ∃ yb, yb = w4.heap.size := ⟨_, rfl⟩
              have hUh : Holds U yb 24 #[.bool false, .string t, .slice a' 0 c'] := by rw [hU, hyb]; exact Holds.new _ _ _
              have hUB : Below w4.heap.size w4 U := by rw [hU]; exact (Below.refl _ _).alloc (Nat.le_refl _) _
              have e0 : U.cell? ⟨yb, 0, none⟩ = some (.bool false) := hUh.cell 0
              have e1 : U.cell? ⟨yb, 1, none⟩ = some (.string t) := hUh.cell 1
              have e3 : U.cell? ⟨gp, k, none⟩ = some (.string E) := by rw [hUB.cell (p := ⟨gp, k, none⟩) HE4.out.2.2.1]; exact HE4.out.1
              have e4 : U.cell? ⟨gt, k, none⟩ = some (.string t) := by rw [hUB.cell (p := ⟨gt, k, none⟩) HE4.out.2.2.2.1]; exact HE4.out.2.1
              have HU : Hid (Below V.heap.size V U) := HE4.out.2.2.2.2.trans (hUB.mono HE4.out.2.2.2.2.size)
              have hPt : P = t := by rw [HP.out]; obtain ⟨l, rfl⟩ := exists_list t; rfl
              subst hPt
              change Code.wp _ _ _ _ (w4.alloc (.cells #[.bool false, .string P, .slice a' 0 c'] 24))
              rw [← hU, ← hyb]
              clear hU hUh hUB hyb d0 d1 d2 hx2
              go_quiet (fail)
              go_wp2_with fail
              go_roundw
              case rel => exact ⟨k + 1, R, by omega, rfl, rfl, hRd, ⟨HU.out.os, HU.out.tape, HU.out.output, HU.out.size, HU.out.block⟩⟩
              case measure => simp [intOf]; omega
            | true =>
              dsimp only at p0 p1 p2
              rw [Nat.mul_comm 3 k] at p0 p1 p2
              have HR3 : Hid (w3.cell? ⟨bk, o + k * 3, none⟩ = some (.bool true) ∧ w3.cell? ⟨bk, o + k * 3 + 1, none⟩ = some (.string ⟨#[]⟩) ∧ w3.cell? ⟨bk, o + k * 3 + 2, none⟩ = some (.slice a' 1 c')) := ⟨p0, p1, p2⟩
              clear p0 p1 p2
              go_wp2_with fail
              refine (split_any B _ hBs).mono ?_
              rintro e w4 ⟨rfl, h4⟩
              rw [HSV.out]
              have h4' : Below V.heap.size V w4 := hBq.trans (h4.mono hBq.size)
              have hx2 : w4.cell? ⟨xb, 2, none⟩ = some (.slice (some ⟨bk, o, none⟩) n cc) := by
                have h1 := HV.out.1
                rw [h4'.cell (p := ⟨xb, 2, none⟩) h1.lt, h1.cell 2]; rfl
              have hcw : ∀ b j, b < w3.heap.size → w4.cell? ⟨b, j, none⟩ = w3.cell? ⟨b, j, none⟩ := fun b j hb => by
                have h1 := HV.out
                rw [h4'.cell (p := ⟨b, j, none⟩) (by show b < _; rw [h1.2.2.1]; omega), h1.2.1.cell (p := ⟨b, j, none⟩) hb]
              have d0 : w4.cell? ⟨bk, o + k * 3, none⟩ = some (.bool true) := (hcw _ _ HK.out.2.2.2.2).trans HR3.out.1
              have d1 : w4.cell? ⟨bk, o + k * 3 + 1, none⟩ = some (.string ⟨#[]⟩) := (hcw _ _ HK.out.2.2.2.2).trans HR3.out.2.1
              have d2 : w4.cell? ⟨bk, o + k * 3 + 2, none⟩ = some (.slice a' 1 c') := (hcw _ _ HK.out.2.2.2.2).trans HR3.out.2.2
              have HE4 : Hid (w4.cell? ⟨gp, k, none⟩ = some (.string E) ∧ w4.cell? ⟨gt, k, none⟩ = some (.string t) ∧ gp < w4.heap.size ∧ gt < w4.heap.size ∧ Below V.heap.size V w4) :=
                ⟨(hcw _ _ HK.out.2.2.1).trans HK.out.1, (hcw _ _ HK.out.2.2.2.1).trans HK.out.2.1, by have := HK.out.2.2.1; have := h4'.size; have := HV.out.2.2.1; omega, by have := HK.out.2.2.2.1; have := h4'.size; have := HV.out.2.2.1; omega, h4'⟩
              clear hcw h4 h4'
              go_wp2_with fail
              obtain ⟨U, hU⟩ : ∃ U, U = w4.alloc (.cells #[.bool true, .string ⟨#[]⟩, .slice a' 1 c'] 24) := ⟨_, rfl⟩
              obtain ⟨yb, hyb⟩ : ∃ yb, yb = w4.heap.size := ⟨_, rfl⟩
              have hUh : Holds U yb 24 #[.bool true, .string ⟨#[]⟩, .slice a' 1 c'] := by rw [hU, hyb]; exact Holds.new _ _ _
              have hUB : Below w4.heap.size w4 U := by rw [hU]; exact (Below.refl _ _).alloc (Nat.le_refl _) _
              have hUz : w4.heap.size < U.heap.size := by rw [hU, World.size_alloc]; omega
              have HU : Hid (Below V.heap.size V U) := HE4.out.2.2.2.2.trans (hUB.mono HE4.out.2.2.2.2.size)
              have hcl : ∀ w5, Below U.heap.size U w5 → w5.cell? ⟨yb, 0, none⟩ = some (.bool true) ∧ w5.cell? ⟨yb, 2, none⟩ = some (.slice a' 1 c') ∧ w5.cell? ⟨gp, k, none⟩ = some (.string E) ∧ w5.cell? ⟨gt, k, none⟩ = some (.string t) := fun w5 h5 =>
                ⟨by rw [h5.cell (p := ⟨yb, 0, none⟩) hUh.lt]; exact hUh.cell 0, by rw [h5.cell (p := ⟨yb, 2, none⟩) hUh.lt]; exact hUh.cell 2,
                 by rw [h5.cell (p := ⟨gp, k, none⟩) (by show gp < _; have := HE4.out.2.2.1; omega), hUB.cell (p := ⟨gp, k, none⟩) HE4.out.2.2.1]; exact HE4.out.1,
                 by rw [h5.cell (p := ⟨gt, k, none⟩) (by show gt < _; have := HE4.out.2.2.2.1; omega), hUB.cell (p := ⟨gt, k, none⟩) HE4.out.2.2.2.1]; exact HE4.out.2.1⟩
              have hPt : P = ⟨(bytesL t.data.toList).toArray⟩ := HP.out
              have HPT : Hid (⟨(bytesL t.data.toList).toArray⟩ = P) := hPt.symm
              rw [← hU, ← hyb]
              have HCL : Hid (∀ w5, Below U.heap.size U w5 → w5.cell? ⟨yb, 0, none⟩ = some (.bool true) ∧ w5.cell? ⟨yb, 2, none⟩ = some (.slice a' 1 c') ∧ w5.cell? ⟨gp, k, none⟩ = some (.string E) ∧ w5.cell? ⟨gt, k, none⟩ = some (.string t)) := hcl
              clear hU hUh hUB hUz hyb d0 d1 d2 hx2 hPt hcl
              refine wp_region_class (fun w' => Below U.heap.size U w') mixedR (by kernel_rfl) (below_drew1 _) ?_
              go_big_quiet_step (exact fun _ => rfl)
              go_big_quiet_step (exact fun _ => rfl)
              go_big_quiet_step (exact fun _ => rfl)
              go_big_quiet_step (exact fun _ => rfl)
              go_big_quiet_step (exact fun _ => rfl)
              refine wpQ_valC rfl (.bool true) (fun w5 h5 => by have hc := (HCL.out w5 h5).1; go_simp) ?_
              simp only [Act.put, List.setIfInBounds_toArray, List.set_cons_succ, List.set_cons_zero]
              go_big_quiet_step (exact fun _ => rfl)
              go_big_quiet_step (exact fun _ => rfl)
              go_big_quiet_step (exact fun _ => rfl)
              go_big_quiet_step (exact fun _ => rfl)
              go_big_quiet_step (exact fun _ => rfl)
              go_big_quiet_step (exact fun _ => rfl)
              go_big_quiet_step (exact fun _ => rfl)
              go_big_quiet_step (exact fun _ => rfl)
              go_big_quiet_step (exact fun _ => rfl)
              go_big_quiet_step (exact fun _ => rfl)
              refine wpQ_valC rfl (.string E) (fun w5 h5 => by have hc := (HCL.out w5 h5).2.2.1; go_simp) ?_
              simp only [Act.put, List.setIfInBounds_toArray, List.set_cons_succ, List.set_cons_zero]
              go_big_quiet_step (exact fun _ => rfl)
              go_big_quiet_step (exact fun _ => rfl)
              go_big_quiet_step (exact fun _ => rfl)
              go_big_quiet_step (exact fun _ => rfl)
              go_big_quiet_step (exact fun _ => rfl)
              go_big_quiet_step (exact fun _ => rfl)
              go_big_quiet_step (exact fun _ => rfl)
              go_big_quiet_step (exact fun _ => rfl)
              go_big_quiet_step (exact fun _ => rfl)
              go_big_quiet_step (exact fun _ => rfl)
              go_big_quiet_step (exact fun _ => rfl)
              go_big_quiet_step (exact fun _ => rfl)
              go_big_quiet_step (exact fun _ => rfl)
              go_big_quiet_step (exact fun _ => rfl)
              go_big_quiet_step (exact fun _ => rfl)
              go_big_quiet_step (exact fun _ => rfl)
              go_big_quiet_step (exact fun _ => rfl)
              go_big_quiet_step (exact fun _ => rfl)
              go_big_quiet_step (exact fun _ => rfl)
              go_big_quiet_step (exact fun _ => rfl)
              go_big_quiet_step (exact fun _ => rfl)
              go_big_quiet_step (exact fun _ => rfl)
              go_big_quiet_step (exact fun _ => rfl)
              go_big_quiet_step (exact fun _ => rfl)
              go_big_quiet_step (exact fun _ => rfl)
              go_big_quiet_step (exact fun _ => rfl)
              go_big_quiet_step (exact fun _ => rfl)
              go_big_quiet_step (exact fun _ => rfl)
              go_big_quiet_step (exact fun _ => rfl)
              go_big_quiet_step (exact fun _ => rfl)
              go_big_quiet_step (exact fun _ => rfl)
              go_big_quiet_step (exact fun _ => rfl)
              refine wpQ_valC rfl (.string t) (fun w5 h5 => by have hc := (HCL.out w5 h5).2.2.2; go_simp) ?_
              simp only [Act.put, List.setIfInBounds_toArray, List.set_cons_succ, List.set_cons_zero]
              refine wpQ_call rfl 13 #[.string t] (fun _ => by go_simp) (.string P) (fun w5 h5 => (bytes_any t w5 (by omega)).mono fun e w6 ⟨he, h6⟩ => ⟨by rw [he, HPT.out], h5.trans (h6.mono h5.size)⟩) ?_
              simp only [Act.put, List.setIfInBounds_toArray, List.set_cons_succ, List.set_cons_zero]
              go_big_quiet_step (exact fun _ => rfl)
              go_big_quiet_step (exact fun _ => rfl)
              go_big_quiet_step (exact fun _ => rfl)
              refine wpQ_valC rfl (.slice a' 1 c') (fun w5 h5 => by have hc := (HCL.out w5 h5).2.1; go_simp) ?_
              simp only [Act.put, List.setIfInBounds_toArray, List.set_cons_succ, List.set_cons_zero]
              go_big_quiet_step (exact fun _ => rfl)
              go_big_quiet_step (exact fun _ => rfl)
              go_big_quiet_step (exact fun _ => rfl)
              go_big_quiet_step (exact fun _ => rfl)
              go_big_quiet_step (exact fun _ => rfl)
              refine wpQuiet_nil ?_
              intro w7 h7
              go_wp2_with fail
              go_roundw
              case rel => exact ⟨k + 1, R, by omega, rfl, rfl, hRd, HU.out.trans (h7.mono HU.out.size)⟩
              case measure => simp [intOf]; omega
          · have hki : ¬ (k : Int) < n := by omega
            have hkn2 : k = n := by omega
            have hBe : B.data.toList = [] := by rw [HBd.out, hkn2, HN.out, List.drop_length]; rfl
            have hBem : B.toList.isEmpty = true := by rw [lb, hBe]; rfl
            have hBl : (B.toList == []) = true := by rw [lb, hBe]; rfl
            clear hkn2
            go_wp2_with fail
            go_ret
            refine ⟨rfl, HBw.out.trans ((HV.out.2.1.trans (hBq.mono (by have := HV.out.2.2.1; omega))).mono HBw.out.size)⟩
      · have hli : (i : Int) < ps.length := by omega
        have hli2 : ¬ (i : Int) < 40 := by omega
        have hn40 : qs.length ≤ 40 := by omega
        obtain ⟨wz, hwz⟩ : ∃ wz, wz = wr := ⟨_, rfl⟩
        subst hwz
        obtain ⟨n, hn⟩ : ∃ n, n = qs.length := ⟨_, rfl⟩
        obtain ⟨X, hX⟩ : ∃ X : ByteArray, X = ⟨(listL (encs qs)).toArray⟩ := ⟨_, rfl⟩
        have hel := encs_len qs HQ.out
        have hXs : X.size ≤ 100000 := by have := listL_len (encs qs); rw [hX]; show (listL (encs qs)).length ≤ _; omega
        have hdec : decode X.data.toList = some (.item true [] (rowOf qs) .nil) := by rw [hX]; exact decode_encs qs HQ.out hn40
        have HD : Hid (decode X.data.toList = some (.item true [] (rowOf qs) .nil)) := hdec
        have HX : Hid (⟨(listL (encs qs)).toArray⟩ = X) := hX.symm
        have hrl := rowOf_len qs
        clear hX hdec
        obtain ⟨ap, cp, hvp, hcp⟩ := own_slice OP.out
        obtain ⟨at2, ct, hvt, hct⟩ := own_slice OT.out
        have HCP : Hid (∀ i (hi : i < (strs (qs.map encS)).length), ∃ g, ap = some ⟨g, 0, none⟩ ∧ g < wz.heap.size ∧ wz.cell? ⟨g, i, none⟩ = some (strs (qs.map encS))[i]) := hcp
        have HCT : Hid (∀ i (hi : i < (strs (qs.map (·.1))).length), ∃ g, at2 = some ⟨g, 0, none⟩ ∧ g < wz.heap.size ∧ wz.cell? ⟨g, i, none⟩ = some (strs (qs.map (·.1)))[i]) := hct
        clear hcp hct
        subst hvp
        subst hvt
        go_wp2_with fail
        refine (list_owned OP.out (by omega) (by rw [cat_encS]; omega)).mono ?_
        rintro e w2 ⟨rfl, h2⟩
        rw [cat_encS, HX.out]
        go_wp2_with fail
        refine (decode_any X _ hXs).mono ?_
        rintro e w3 ⟨he, h3⟩
        rw [HD.out] at he
        obtain ⟨a, cc, rfl, _, _, hl⟩ := he
        rw [hrl, ← hn]
        have HN : Hid (n = qs.length) := hn
        have HL : Hid (Lies w3 (fun k => w2.heap.size ≤ k ∧ k < w3.heap.size) (rowOf qs) a) := hl
        have HB3 : Hid (Below wz.heap.size wz w3) := h2.trans (h3.mono h2.size)
        have HBw : Hid (Below w.heap.size w w3) := hB.trans (HB3.out.mono hB.size)
        rw [← hn] at hn40 hqi
        have hni : (n : Int) ≤ 40 := by omega
        clear hn hl h2 h3 hrl hel hB OP OT AP HC HC2
        go_wp2_with fail
        obtain ⟨V, hV⟩ : ∃ V, V = w3.alloc (.cells #[.bool true, .string ⟨#[]⟩, .slice a n cc] 24) := ⟨_, rfl⟩
        obtain ⟨xb, hxb⟩ : ∃ xb, xb = w3.heap.size := ⟨_, rfl⟩
        rw [← hV, ← hxb]
        have HV : Hid (Holds V xb 24 #[.bool true, .string ⟨#[]⟩, .slice a n cc] ∧ Below w3.heap.size w3 V ∧ V.heap.size = w3.heap.size + 1 ∧ xb = w3.heap.size) := ⟨by rw [hV, hxb]; exact Holds.new _ _ _, by rw [hV]; exact (Below.refl _ _).alloc (Nat.le_refl _) _, by rw [hV, World.size_alloc], hxb⟩
        clear hV hxb
        go_loopw [8, 13] (fun a8 a13 wq => ∃ (k : Nat) (B : ByteArray), k ≤ n ∧ a8 = .string B ∧ a13 = .int .i64 k ∧ Hid (B.data.toList = encs (qs.drop k)) ∧ Below V.heap.size V wq) (fun _ a13 _ => n - (intOf a13).toNat)
        case atStart => exact ⟨0, A, by omega, rfl, rfl, by simp only [Hid]; rw [HA.out]; rfl, Below.refl _ _⟩
        case round =>
          obtain ⟨k, B, hk, rfl, rfl, HBd, hBq⟩ := hrel
          by_cases hkn : k < n
          · have hki : (k : Int) < n := by omega
            have hk0 : (0 : Int) ≤ k := by omega
            have hkq : k < qs.length := by have := HN.out; omega
            obtain ⟨t, f, hq⟩ : ∃ t f, qs[k] = (t, f) := ⟨_, _, rfl⟩
            have ht3 : t.size ≤ 300 := by have := HQ.out qs[k] (List.getElem_mem hkq); rw [hq] at this; exact this
            obtain ⟨E, hE⟩ : ∃ E, E = encS (t, f) := ⟨_, rfl⟩
            obtain ⟨R, hR⟩ : ∃ R : ByteArray, R = ⟨(encs (qs.drop (k + 1))).toArray⟩ := ⟨_, rfl⟩
            obtain ⟨P, hP⟩ : ∃ P : ByteArray, P = ⟨(payl (t, f)).toArray⟩ := ⟨_, rfl⟩
            have hBd : B.data.toList = enc1 (t, f) ++ encs (qs.drop (k + 1)) := by
              rw [HBd.out, List.drop_eq_getElem_cons hkq, encs_cons, hq]
            have hsp : split B.data.toList = some (payl (t, f), f, encs (qs.drop (k + 1))) := by rw [hBd]; exact split_enc (t, f) _ ht3
            have hsV : splitV (split B.data.toList) = .tuple #[.string P, .bool f, .string R, .int .i64 0] := by rw [hsp, hP, hR]; rfl
            have hBE : B.size = E.size + R.size := by
              rw [← sizeB, hBd, List.length_append, hE, hR]; rfl
            have hRd : Hid (R.data.toList = encs (qs.drop (k + 1))) := by simp only [Hid]; rw [hR]
            have hRs : R.size ≤ 20000 := by
              have h1 := encs_len (qs.drop (k + 1)) fun q hq => HQ.out q (List.mem_of_mem_drop hq)
              have h2 : (qs.drop (k + 1)).length ≤ 40 := by rw [List.length_drop]; have := HN.out; omega
              rw [← sizeB, hRd.out]; omega
            have hEs : E.size ≤ 318 := by have := enc1_len (t, f) ht3; rw [hE]; exact this
            have hBi : (B.size : Int) - E.size = R.size := by omega
            have hBs : B.size < 4611686018427387904 := by omega
            clear hBE
            have HSV : Hid (splitV (split B.data.toList) = .tuple #[.string P, .bool f, .string R, .int .i64 0]) := hsV
            have HP : Hid (P = ⟨(payl (t, f)).toArray⟩) := hP
            have cE : Hid (∃ g, ap = some ⟨g, 0, none⟩ ∧ g < wz.heap.size ∧ wz.cell? ⟨g, k, none⟩ = some (.string E)) := by
              obtain ⟨g, e1, e2, e3⟩ := HCP.out k (by rw [strs_length, List.length_map]; exact hkq)
              exact ⟨g, e1, e2, by rw [e3, hE]; simp [strs, hq]⟩
            have cT : Hid (∃ g, at2 = some ⟨g, 0, none⟩ ∧ g < wz.heap.size ∧ wz.cell? ⟨g, k, none⟩ = some (.string t)) := by
              obtain ⟨g, e1, e2, e3⟩ := HCT.out k (by rw [strs_length, List.length_map]; exact hkq)
              exact ⟨g, e1, e2, by rw [e3]; simp [strs, hq]⟩
            have hat := rowOf_at qs k hkq
            rw [hq] at hat
            obtain ⟨bk, o, a', c', rfl, hbk, p0, p1, p2, pl, pL⟩ := HL.out.get k (by rw [rowOf_len]; exact hkq)
            rw [hat] at p0 p1 p2 pl pL
            obtain ⟨gp, rfl, hgp, hEc⟩ := cE.out
            obtain ⟨gt, rfl, hgt, hTc⟩ := cT.out
            have HK : Hid (w3.cell? ⟨gp, k, none⟩ = some (.string E) ∧ w3.cell? ⟨gt, k, none⟩ = some (.string t) ∧ gp < w3.heap.size ∧ gt < w3.heap.size ∧ bk < w3.heap.size) := by
              have hz := HB3.out.size
              exact ⟨by rw [HB3.out.cell (p := ⟨gp, k, none⟩) hgp]; exact hEc, by rw [HB3.out.cell (p := ⟨gt, k, none⟩) hgt]; exact hTc, by omega, by omega, hbk.2⟩
            clear cE cT hEc hTc hgp hgt hP hR hE hsV hsp hBd hat HBd pl pL hbk HCP HCT HL
            cases f with
            | false =>
              dsimp only at p0 p1 p2
              rw [Nat.mul_comm 3 k] at p0 p1 p2
              have HR3 : Hid (w3.cell? ⟨bk, o + k * 3, none⟩ = some (.bool false) ∧ w3.cell? ⟨bk, o + k * 3 + 1, none⟩ = some (.string ⟨t.data.toList.toArray⟩) ∧ w3.cell? ⟨bk, o + k * 3 + 2, none⟩ = some (.slice a' 0 c')) := ⟨p0, p1, p2⟩
              clear p0 p1 p2
              go_wp2_with fail
              refine (split_any B _ hBs).mono ?_
              rintro e w4 ⟨rfl, h4⟩
              rw [HSV.out]
              have h4' : Below V.heap.size V w4 := hBq.trans (h4.mono hBq.size)
              have hx2 : w4.cell? ⟨xb, 2, none⟩ = some (.slice (some ⟨bk, o, none⟩) n cc) := by
                have h1 := HV.out.1
                rw [h4'.cell (p := ⟨xb, 2, none⟩) h1.lt, h1.cell 2]; rfl
              have hcw : ∀ b j, b < w3.heap.size → w4.cell? ⟨b, j, none⟩ = w3.cell? ⟨b, j, none⟩ := fun b j hb => by
                have h1 := HV.out
                rw [h4'.cell (p := ⟨b, j, none⟩) (by show b < _; rw [h1.2.2.1]; omega), h1.2.1.cell (p := ⟨b, j, none⟩) hb]
              have d0 : w4.cell? ⟨bk, o + k * 3, none⟩ = some (.bool false) := (hcw _ _ HK.out.2.2.2.2).trans HR3.out.1
              have d1 : w4.cell? ⟨bk, o + k * 3 + 1, none⟩ = some (.string ⟨t.data.toList.toArray⟩) := (hcw _ _ HK.out.2.2.2.2).trans HR3.out.2.1
              have d2 : w4.cell? ⟨bk, o + k * 3 + 2, none⟩ = some (.slice a' 0 c') := (hcw _ _ HK.out.2.2.2.2).trans HR3.out.2.2
              have HE4 : Hid (w4.cell? ⟨gp, k, none⟩ = some (.string E) ∧ w4.cell? ⟨gt, k, none⟩ = some (.string t) ∧ gp < w4.heap.size ∧ gt < w4.heap.size ∧ Below V.heap.size V w4) :=
                ⟨(hcw _ _ HK.out.2.2.1).trans HK.out.1, (hcw _ _ HK.out.2.2.2.1).trans HK.out.2.1, by have := HK.out.2.2.1; have := h4'.size; have := HV.out.2.2.1; omega, by have := HK.out.2.2.2.1; have := h4'.size; have := HV.out.2.2.1; omega, h4'⟩
              clear hcw h4 h4'
              go_wp2_with fail
              obtain ⟨U, hU⟩ : ∃ U, U = w4.alloc (.cells #[.bool false, .string t, .slice a' 0 c'] 24) := ⟨_, rfl⟩
              obtain ⟨yb, hyb⟩ : ∃ yb, yb = w4.heap.size := ⟨_, rfl⟩
              have hUh : Holds U yb 24 #[.bool false, .string t, .slice a' 0 c'] := by rw [hU, hyb]; exact Holds.new _ _ _
              have hUB : Below w4.heap.size w4 U := by rw [hU]; exact (Below.refl _ _).alloc (Nat.le_refl _) _
              have e0 : U.cell? ⟨yb, 0, none⟩ = some (.bool false) := hUh.cell 0
              have e1 : U.cell? ⟨yb, 1, none⟩ = some (.string t) := hUh.cell 1
              have e3 : U.cell? ⟨gp, k, none⟩ = some (.string E) := by rw [hUB.cell (p := ⟨gp, k, none⟩) HE4.out.2.2.1]; exact HE4.out.1
              have e4 : U.cell? ⟨gt, k, none⟩ = some (.string t) := by rw [hUB.cell (p := ⟨gt, k, none⟩) HE4.out.2.2.2.1]; exact HE4.out.2.1
              have HU : Hid (Below V.heap.size V U) := HE4.out.2.2.2.2.trans (hUB.mono HE4.out.2.2.2.2.size)
              have hPt : P = t := by rw [HP.out]; obtain ⟨l, rfl⟩ := exists_list t; rfl
              subst hPt
              change Code.wp _ _ _ _ (w4.alloc (.cells #[.bool false, .string P, .slice a' 0 c'] 24))
              rw [← hU, ← hyb]
              clear hU hUh hUB hyb d0 d1 d2 hx2
              go_quiet (fail)
              go_wp2_with fail
              go_roundw
              case rel => exact ⟨k + 1, R, by omega, rfl, rfl, hRd, ⟨HU.out.os, HU.out.tape, HU.out.output, HU.out.size, HU.out.block⟩⟩
              case measure => simp [intOf]; omega
            | true =>
              dsimp only at p0 p1 p2
              rw [Nat.mul_comm 3 k] at p0 p1 p2
              have HR3 : Hid (w3.cell? ⟨bk, o + k * 3, none⟩ = some (.bool true) ∧ w3.cell? ⟨bk, o + k * 3 + 1, none⟩ = some (.string ⟨#[]⟩) ∧ w3.cell? ⟨bk, o + k * 3 + 2, none⟩ = some (.slice a' 1 c')) := ⟨p0, p1, p2⟩
              clear p0 p1 p2
              go_wp2_with fail
              refine (split_any B _ hBs).mono ?_
              rintro e w4 ⟨rfl, h4⟩
              rw [HSV.out]
              have h4' : Below V.heap.size V w4 := hBq.trans (h4.mono hBq.size)
              have hx2 : w4.cell? ⟨xb, 2, none⟩ = some (.slice (some ⟨bk, o, none⟩) n cc) := by
                have h1 := HV.out.1
                rw [h4'.cell (p := ⟨xb, 2, none⟩) h1.lt, h1.cell 2]; rfl
              have hcw : ∀ b j, b < w3.heap.size → w4.cell? ⟨b, j, none⟩ = w3.cell? ⟨b, j, none⟩ := fun b j hb => by
                have h1 := HV.out
                rw [h4'.cell (p := ⟨b, j, none⟩) (by show b < _; rw [h1.2.2.1]; omega), h1.2.1.cell (p := ⟨b, j, none⟩) hb]
              have d0 : w4.cell? ⟨bk, o + k * 3, none⟩ = some (.bool true) := (hcw _ _ HK.out.2.2.2.2).trans HR3.out.1
              have d1 : w4.cell? ⟨bk, o + k * 3 + 1, none⟩ = some (.string ⟨#[]⟩) := (hcw _ _ HK.out.2.2.2.2).trans HR3.out.2.1
              have d2 : w4.cell? ⟨bk, o + k * 3 + 2, none⟩ = some (.slice a' 1 c') := (hcw _ _ HK.out.2.2.2.2).trans HR3.out.2.2
              have HE4 : Hid (w4.cell? ⟨gp, k, none⟩ = some (.string E) ∧ w4.cell? ⟨gt, k, none⟩ = some (.string t) ∧ gp < w4.heap.size ∧ gt < w4.heap.size ∧ Below V.heap.size V w4) :=
                ⟨(hcw _ _ HK.out.2.2.1).trans HK.out.1, (hcw _ _ HK.out.2.2.2.1).trans HK.out.2.1, by have := HK.out.2.2.1; have := h4'.size; have := HV.out.2.2.1; omega, by have := HK.out.2.2.2.1; have := h4'.size; have := HV.out.2.2.1; omega, h4'⟩
              clear hcw h4 h4'
              go_wp2_with fail
              obtain ⟨U, hU⟩ : ∃ U, U = w4.alloc (.cells #[.bool true, .string ⟨#[]⟩, .slice a' 1 c'] 24) := ⟨_, rfl⟩
              obtain ⟨yb, hyb⟩ : ∃ yb, yb = w4.heap.size := ⟨_, rfl⟩
              have hUh : Holds U yb 24 #[.bool true, .string ⟨#[]⟩, .slice a' 1 c'] := by rw [hU, hyb]; exact Holds.new _ _ _
              have hUB : Below w4.heap.size w4 U := by rw [hU]; exact (Below.refl _ _).alloc (Nat.le_refl _) _
              have hUz : w4.heap.size < U.heap.size := by rw [hU, World.size_alloc]; omega
              have HU : Hid (Below V.heap.size V U) := HE4.out.2.2.2.2.trans (hUB.mono HE4.out.2.2.2.2.size)
              have hcl : ∀ w5, Below U.heap.size U w5 → w5.cell? ⟨yb, 0, none⟩ = some (.bool true) ∧ w5.cell? ⟨yb, 2, none⟩ = some (.slice a' 1 c') ∧ w5.cell? ⟨gp, k, none⟩ = some (.string E) ∧ w5.cell? ⟨gt, k, none⟩ = some (.string t) := fun w5 h5 =>
                ⟨by rw [h5.cell (p := ⟨yb, 0, none⟩) hUh.lt]; exact hUh.cell 0, by rw [h5.cell (p := ⟨yb, 2, none⟩) hUh.lt]; exact hUh.cell 2,
                 by rw [h5.cell (p := ⟨gp, k, none⟩) (by show gp < _; have := HE4.out.2.2.1; omega), hUB.cell (p := ⟨gp, k, none⟩) HE4.out.2.2.1]; exact HE4.out.1,
                 by rw [h5.cell (p := ⟨gt, k, none⟩) (by show gt < _; have := HE4.out.2.2.2.1; omega), hUB.cell (p := ⟨gt, k, none⟩) HE4.out.2.2.2.1]; exact HE4.out.2.1⟩
              have hPt : P = ⟨(bytesL t.data.toList).toArray⟩ := HP.out
              have HPT : Hid (⟨(bytesL t.data.toList).toArray⟩ = P) := hPt.symm
              rw [← hU, ← hyb]
              have HCL : Hid (∀ w5, Below U.heap.size U w5 → w5.cell? ⟨yb, 0, none⟩ = some (.bool true) ∧ w5.cell? ⟨yb, 2, none⟩ = some (.slice a' 1 c') ∧ w5.cell? ⟨gp, k, none⟩ = some (.string E) ∧ w5.cell? ⟨gt, k, none⟩ = some (.string t)) := hcl
              clear hU hUh hUB hUz hyb d0 d1 d2 hx2 hPt hcl
              refine wp_region_class (fun w' => Below U.heap.size U w') mixedR (by kernel_rfl) (below_drew1 _) ?_
              go_big_quiet_step (exact fun _ => rfl)
              go_big_quiet_step (exact fun _ => rfl)
              go_big_quiet_step (exact fun _ => rfl)
              go_big_quiet_step (exact fun _ => rfl)
              go_big_quiet_step (exact fun _ => rfl)
              refine wpQ_valC rfl (.bool true) (fun w5 h5 => by have hc := (HCL.out w5 h5).1; go_simp) ?_
              simp only [Act.put, List.setIfInBounds_toArray, List.set_cons_succ, List.set_cons_zero]
              go_big_quiet_step (exact fun _ => rfl)
              go_big_quiet_step (exact fun _ => rfl)
              go_big_quiet_step (exact fun _ => rfl)
              go_big_quiet_step (exact fun _ => rfl)
              go_big_quiet_step (exact fun _ => rfl)
              go_big_quiet_step (exact fun _ => rfl)
              go_big_quiet_step (exact fun _ => rfl)
              go_big_quiet_step (exact fun _ => rfl)
              go_big_quiet_step (exact fun _ => rfl)
              go_big_quiet_step (exact fun _ => rfl)
              refine wpQ_valC rfl (.string E) (fun w5 h5 => by have hc := (HCL.out w5 h5).2.2.1; go_simp) ?_
              simp only [Act.put, List.setIfInBounds_toArray, List.set_cons_succ, List.set_cons_zero]
              go_big_quiet_step (exact fun _ => rfl)
              go_big_quiet_step (exact fun _ => rfl)
              go_big_quiet_step (exact fun _ => rfl)
              go_big_quiet_step (exact fun _ => rfl)
              go_big_quiet_step (exact fun _ => rfl)
              go_big_quiet_step (exact fun _ => rfl)
              go_big_quiet_step (exact fun _ => rfl)
              go_big_quiet_step (exact fun _ => rfl)
              go_big_quiet_step (exact fun _ => rfl)
              go_big_quiet_step (exact fun _ => rfl)
              go_big_quiet_step (exact fun _ => rfl)
              go_big_quiet_step (exact fun _ => rfl)
              go_big_quiet_step (exact fun _ => rfl)
              go_big_quiet_step (exact fun _ => rfl)
              go_big_quiet_step (exact fun _ => rfl)
              go_big_quiet_step (exact fun _ => rfl)
              go_big_quiet_step (exact fun _ => rfl)
              go_big_quiet_step (exact fun _ => rfl)
              go_big_quiet_step (exact fun _ => rfl)
              go_big_quiet_step (exact fun _ => rfl)
              go_big_quiet_step (exact fun _ => rfl)
              go_big_quiet_step (exact fun _ => rfl)
              go_big_quiet_step (exact fun _ => rfl)
              go_big_quiet_step (exact fun _ => rfl)
              go_big_quiet_step (exact fun _ => rfl)
              go_big_quiet_step (exact fun _ => rfl)
              go_big_quiet_step (exact fun _ => rfl)
              go_big_quiet_step (exact fun _ => rfl)
              go_big_quiet_step (exact fun _ => rfl)
              go_big_quiet_step (exact fun _ => rfl)
              go_big_quiet_step (exact fun _ => rfl)
              go_big_quiet_step (exact fun _ => rfl)
              refine wpQ_valC rfl (.string t) (fun w5 h5 => by have hc := (HCL.out w5 h5).2.2.2; go_simp) ?_
              simp only [Act.put, List.setIfInBounds_toArray, List.set_cons_succ, List.set_cons_zero]
              refine wpQ_call rfl 13 #[.string t] (fun _ => by go_simp) (.string P) (fun w5 h5 => (bytes_any t w5 (by omega)).mono fun e w6 ⟨he, h6⟩ => ⟨by rw [he, HPT.out], h5.trans (h6.mono h5.size)⟩) ?_
              simp only [Act.put, List.setIfInBounds_toArray, List.set_cons_succ, List.set_cons_zero]
              go_big_quiet_step (exact fun _ => rfl)
              go_big_quiet_step (exact fun _ => rfl)
              go_big_quiet_step (exact fun _ => rfl)
              refine wpQ_valC rfl (.slice a' 1 c') (fun w5 h5 => by have hc := (HCL.out w5 h5).2.1; go_simp) ?_
              simp only [Act.put, List.setIfInBounds_toArray, List.set_cons_succ, List.set_cons_zero]
              go_big_quiet_step (exact fun _ => rfl)
              go_big_quiet_step (exact fun _ => rfl)
              go_big_quiet_step (exact fun _ => rfl)
              go_big_quiet_step (exact fun _ => rfl)
              go_big_quiet_step (exact fun _ => rfl)
              refine wpQuiet_nil ?_
              intro w7 h7
              go_wp2_with fail
              go_roundw
              case rel => exact ⟨k + 1, R, by omega, rfl, rfl, hRd, HU.out.trans (h7.mono HU.out.size)⟩
              case measure => simp [intOf]; omega
          · have hki : ¬ (k : Int) < n := by omega
            have hkn2 : k = n := by omega
            have hBe : B.data.toList = [] := by rw [HBd.out, hkn2, HN.out, List.drop_length]; rfl
            have hBem : B.toList.isEmpty = true := by rw [lb, hBe]; rfl
            have hBl : (B.toList == []) = true := by rw [lb, hBe]; rfl
            clear hkn2
            go_wp2_with fail
            go_ret
            refine ⟨rfl, HBw.out.trans ((HV.out.2.1.trans (hBq.mono (by have := HV.out.2.2.1; omega))).mono HBw.out.size)⟩
end Go.Proofs.Ytikpmafmmjfioaa
