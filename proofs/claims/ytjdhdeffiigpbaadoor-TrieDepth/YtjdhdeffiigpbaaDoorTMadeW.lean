/-
  What the law's made tells: pairs that may be.
-/
import Derived.Test.YtjdhdeffiigpbaaDoorTAppW
import Derived.Test.YtjdhdeffiigpbaaDoorTNodesW
import Derived.Test.YtjdhdeffiigpbaaDoorRefB
namespace Go.Proofs.YtjdhdeffiigpbaaDoor
open Go Go.RowKit Go.BigFrame Nb

structure Made (m : Nat) (L : List Pr) : Prop where
  may : May m L
  least : 1 ≤ m
  most : m ≤ 64
  few : L.length ≤ 60
  vals : ∀ p ∈ L, p.2.size ≤ 100
def MadePost (w : World) (e : Ending) (w' : World) : Prop := ∃ v' L m, e = .returned v' ∧ OwnPairs w' w.heap.size v' L ∧ Made m L ∧ Below w.heap.size w w'
theorem may_any_nil (m : Nat) : May m [] := ⟨(fun _ h => by cases h), (fun _ h => by cases h), (fun _ h => by cases h), List.Pairwise.nil⟩
theorem may_of_last {m : Nat} {L : List Pr} {p : Pr} (h : mayL (L ++ [p])) (hp : p.1.size = m) : May m (L ++ [p]) := by
  obtain ⟨n, hn⟩ := h
  have h1 := hn.len p (by simp)
  have h2 : (kb p).length = p.1.size := rfl
  have : n = m := by omega
  exact this ▸ hn
theorem hal_size (x : ByteArray) : ((⟨(hal x.data.toList).toArray⟩ : ByteArray)).size = 2 * x.size := by
  show (hal x.data.toList).length = _
  rw [hal_len, sizeB]
theorem pair_new (w : World) (x y : ByteArray) : PairAt (w.alloc (.cells #[.string x, .string y] 33)) w.heap.size 0 (x, y) :=
  ⟨by rw [World.cell?_alloc_mark]; rfl, by rw [World.cell?_alloc_mark]; rfl⟩
def strLen : Value → Nat
  | .string x => x.size
  | _ => 0
set_option maxRecDepth 16000 in
set_option maxHeartbeats 8000000 in
theorem made_any (v : Value) (R : List Pr) (n : Int) (w : World) (h : PairsAt w v R) (hn : -9223372036854775808 ≤ n ∧ n ≤ 9223372036854775807) (hRl : R.length ≤ 9223372036854775807) : Calls Tryd.prog 16 #[v, .int .i64 n] w (MadePost w) := by
  obtain ⟨pn, cn, rfl⟩ := h.shape
  have HP : Hid (PairsAt w (.slice pn R.length cn) R) := h
  obtain ⟨N, hN⟩ : ∃ N, R.length = N := ⟨_, rfl⟩
  have HN : Hid (R.length = N) := hN
  rw [hN] at HP hRl ⊢
  clear h hN
  obtain ⟨z, hz⟩ : ∃ z, n.tmod 64 = z := ⟨_, rfl⟩
  have hzr : -63 ≤ z ∧ z ≤ 63 := by
    rcases (by omega : n < 0 ∨ 0 ≤ n) with h | h
    · have e : n.tmod 64 = -((-n).tmod 64) := by rw [Int.neg_tmod, Int.neg_neg]
      have e2 := Int.tmod_eq_emod_of_nonneg (a := -n) (b := 64) (by omega)
      omega
    · rw [Int.tmod_eq_emod_of_nonneg h] at hz
      omega
  by_cases hneg : z < 0
  · obtain ⟨m, hm⟩ : ∃ m : Nat, -z + 1 = (m : Int) := ⟨(-z + 1).toNat, by omega⟩
    have hm1 : 1 ≤ m ∧ m ≤ 64 := by omega
    have hwm : IntKind.i64.wrap (m : Int) = (m : Int) := by rw [IntKind.wrap_i64]; omega
    have hwz : IntKind.i64.wrap (-z) = -z := by rw [IntKind.wrap_i64]; omega
    have HM1 : Hid (1 ≤ m ∧ m ≤ 64) := hm1
    go_enter Tryd.func16, Tryd.ntmps16
    go_wp2_with fail
    go_loopw [6, 7] (fun vo zz wr => ∃ (i : Nat) (p' : Option Addr) (k c' : Nat) (Q : List Pr), i ≤ N ∧ zz = .int .i64 (i : Nat) ∧ vo = .slice p' k c' ∧ Hid (k = Q.length ∧ k ≤ 60 ∧ OwnPairs wr w.heap.size (.slice p' k c') Q ∧ Made m Q) ∧ Hid (Below w.heap.size w wr)) (fun _ zz _ => N - (intOf zz).toNat)
    case atStart => exact ⟨0, none, 0, 0, [], by omega, rfl, rfl, ⟨rfl, by omega, OwnPairs.nil _ _, ⟨may_any_nil m, hm1.1, hm1.2, by simp, fun q hq => by cases hq⟩⟩, Below.refl _ _⟩
    case round =>
      obtain ⟨i, p', k, c', Q, hi, rfl, rfl, HO, HB⟩ := hrel
      by_cases hlt : i < N
      · have hlti : (i : Int) < N := by omega
        by_cases hk60 : k < 60
        · have hki : (k : Int) < 60 := by omega
          have hi00 : (0 : Int) ≤ i := by omega
          obtain ⟨x, hx⟩ : ∃ x, R[i]? = some x := ⟨_, List.getElem?_eq_getElem (by rw [HN.out]; exact hlt)⟩
          obtain ⟨b, o, hp1, hnl, hxa⟩ := HP.out.at hx
          subst hp1
          obtain ⟨x1, x2⟩ := x
          have q1 : wr.cell? ⟨b, o + i * 2, none⟩ = some (.string x1) := (hxa.below HB.out).1
          have q2 : wr.cell? ⟨b, o + i * 2 + 1, none⟩ = some (.string x2) := (hxa.below HB.out).2
          clear hx hxa hnl
          by_cases hc1 : 32 < x1.size
          · have hc1i : (32 : Int) < x1.size := by omega
            obtain ⟨y, hy⟩ : ∃ y, x1.extract 0 32 = y := ⟨_, rfl⟩
            have hcut1 : ∀ W : World, (Instr.sliceAt 9 (.string x1) none (some (.int .i64 32)) none).run Tryd.prog W = .ok (.string y) W := fun W => by rw [← hy]; exact slice_cut x1 32 (by omega) W
            have hys : y.size ≤ 32 := by rw [← hy, ByteArray.size_extract]; omega
            clear hy hc1
            go_wp2_with fail
            refine (refOf_any y _ (by omega)).mono ?_
            rintro e w3 ⟨rfl, hB3⟩
            have hh0s := hal_size y
            have hh0r := right_hal y.data.toList
            obtain ⟨h0, hh0⟩ : ∃ h0 : ByteArray, (⟨(hal y.data.toList).toArray⟩ : ByteArray) = h0 := ⟨_, rfl⟩
            have hh0r' : rightL h0.data.toList = true := by rw [← hh0]; exact hh0r
            rw [hh0] at hh0s ⊢
            have HB3 : Hid (Below w.heap.size w w3) := HB.out.trans (hB3.mono HB.out.size)
            have HO3 : Hid (OwnPairs w3 w.heap.size (.slice p' k c') Q) := HO.out.2.2.1.below0 hB3
            have q23 : w3.cell? ⟨b, o + i * 2 + 1, none⟩ = some (.string x2) := by
              rw [hB3.cell (p := ⟨b, o + i * 2 + 1, none⟩) (World.block_lt_of_cell? wr _ q2)]; exact q2
            have HH0 : Hid (h0.size ≤ 64 ∧ rightL h0.data.toList = true) := ⟨by omega, hh0r'⟩
            clear hB3 hh0s hh0r hh0 hh0r' q1 q2
            go_wp2_with fail
            go_loopw [8] (fun s w2 => ∃ h : ByteArray, s = .string h ∧ w3 = w2 ∧ Hid (h.size ≤ 64 ∧ rightL h.data.toList = true)) (fun s _ => m - strLen s)
            case atStart => exact ⟨h0, rfl, rfl, HH0.out⟩
            case round =>
              obtain ⟨h, rfl, rfl, HH⟩ := hrel
              by_cases hpad : h.size < m
              · have hpi : (h.size : Int) < m := by omega
                have hps : (h.size : Int) + 1 ≤ 9223372036854775807 := by omega
                have HH2 : Hid ((h ++ (⟨#[0]⟩ : ByteArray)).size = h.size + 1 ∧ rightL (h ++ (⟨#[0]⟩ : ByteArray)).data.toList = true) := by
                  refine ⟨by rw [ByteArray.size_append]; rfl, ?_⟩
                  rw [strcat]
                  show rightL (h.data.toList ++ [0]) = true
                  unfold rightL
                  rw [List.all_append]
                  have := HH.out.2
                  unfold rightL at this
                  rw [this]; rfl
                go_wp2_with fail
                go_roundw
                case rel => exact ⟨_, rfl, trivial, by rw [HH2.out.1]; omega, HH2.out.2⟩
                case measure =>
                  show m - (h ++ (⟨#[0]⟩ : ByteArray)).size < m - h.size
                  rw [HH2.out.1]; omega
              · have hpi : ¬ (h.size : Int) < m := by omega
                obtain ⟨kk, hkke⟩ : ∃ kk, h.extract 0 m = kk := ⟨_, rfl⟩
                have SK : ∀ W : World, (Instr.sliceAt 9 (.string h) none (some (.int .i64 (m : Int))) none).run Tryd.prog W = .ok (.string kk) W := fun W => by rw [← hkke]; exact slice_cut h m (by omega) W
                have HKK : Hid (kk.size = m ∧ True) := ⟨by rw [← hkke, ByteArray.size_extract]; omega, trivial⟩
                clear hkke hpad
                by_cases hc2 : 100 < x2.size
                · obtain ⟨vv, hvve⟩ : ∃ vv, x2.extract 0 100 = vv := ⟨_, rfl⟩
                  have hcut2 : ∀ W : World, (Instr.sliceAt 9 (.string x2) none (some (.int .i64 100)) none).run Tryd.prog W = .ok (.string vv) W := fun W => by rw [← hvve]; exact slice_cut x2 100 (by omega) W
                  have hvs : vv.size = 100 := by rw [← hvve, ByteArray.size_extract]; omega
                  have hvv : vv.size ≤ 100 := by omega
                  have ev := notEmpty vv (by omega)
                  have hc2i : (100 : Int) < x2.size := by omega
                  clear hvve hvs hc2
                  have HKV : Hid (kk.size = m ∧ vv.size ≤ 100) := ⟨HKK.out.1, hvv⟩
                  have HML : Hid ((Q ++ [(kk, vv)]).length = k + 1) := by show _ = _; rw [List.length_append, ← HO.out.1]; rfl
                  have HKS : Hid (∀ q ∈ Q ++ [(kk, vv)], q.1.size ≤ 1000000) := fun q hq => by
                    rcases List.mem_append.1 hq with hq | hq
                    · have h1 := HO.out.2.2.2.may.len q hq
                      have h2 : (kb q).length = q.1.size := rfl
                      have := HO.out.2.2.2.most
                      omega
                    · rw [List.mem_singleton.1 hq]
                      have := HKK.out.1
                      show kk.size ≤ _
                      omega
                  have hB34 : Below w3.heap.size w3 ((w3.alloc (.cells #[.string kk, .string vv] 33)).alloc (.cells #[.string kk, .string vv] 33)) := ((Below.refl _ _).alloc (Nat.le_refl _) _).alloc (by rw [World.size_alloc]; omega) _
                  have HAP : Hid (OwnPairs ((w3.alloc (.cells #[.string kk, .string vv] 33)).alloc (.cells #[.string kk, .string vv] 33)) w.heap.size (.slice p' k c') Q ∧ PairAt ((w3.alloc (.cells #[.string kk, .string vv] 33)).alloc (.cells #[.string kk, .string vv] 33)) (w3.heap.size + 1) 0 (kk, vv) ∧ w.heap.size ≤ ((w3.alloc (.cells #[.string kk, .string vv] 33)).alloc (.cells #[.string kk, .string vv] 33)).heap.size) := by
                    refine ⟨HO3.out.below0 hB34, ?_, by have := hB34.size; have := HB3.out.size; omega⟩
                    have := pair_new (w3.alloc (.cells #[.string kk, .string vv] 33)) kk vv
                    rwa [World.size_alloc] at this
                  have HBP : Hid (Below w.heap.size w (w3.alloc (.cells #[.string kk, .string vv] 33)) ∧ True) := ⟨HB3.out.alloc HB3.out.size _, trivial⟩
                  have HNB : Hid (some w3.heap.size ≠ (Value.slice p' k c').ownBlock) := fun e => by
                    have := HO3.out.lt w3.heap.size e.symm
                    omega
                  clear hB34
                  go_wp2_with (first
                    | (at_builtin
                       refine wpList_append_one (base := w.heap.size) (K := Q) (p := (kk, vv)) (g := w3.heap.size + 1) rfl _ _ rfl rfl rfl HAP.out.1 HAP.out.2.1 (by have := HO.out.2.1; have := HO.out.1; omega) HAP.out.2.2 ?_
                       intro v4 w4 hO4 hK4 hg4
                       obtain ⟨p4, c4, hv4⟩ := hO4.at.shape
                       rw [HML.out] at hv4
                       subst hv4)
                    | fail)
                  have HB4 : Hid (Below w.heap.size w w4) := below_grownT (HBP.out.1.alloc HBP.out.1.size _) hg4 fun q hq => (HAP.out.1.lt q hq).1
                  have hpb4 : K.Holds w4 w3.heap.size 33 #[.string kk, .string vv] := (hg4.block _ (by rw [World.size_alloc, World.size_alloc]; omega) (fun e => HNB.out e)).trans ((K.Holds.new w3 _ _).alloc _)
                  have hmay := qmay_any _ (Q ++ [(kk, vv)]) w4 hO4.at (by rw [List.length_append]; have := HO.out.2.1; have := HO.out.1; show Q.length + 1 ≤ _; omega) (fun q hq => HKS.out q hq)
                  have HK4 : Hid (OwnPairs w4 w.heap.size (.slice p' k c') Q) := hK4
                  clear hg4 hK4
                  refine hmay.mono ?_
                  rintro e w5 ⟨r, rfl, hr, hB5⟩
                  have HB5 : Hid (Below w.heap.size w w5) := HB4.out.trans (hB5.mono HB4.out.size)
                  have hpb5 := K.Below.holds hB5 hpb4
                  have cp1 : w5.cell? ⟨w3.heap.size, 0, none⟩ = some (.string kk) := hpb5.cell 0
                  have cp2 : w5.cell? ⟨w3.heap.size, 1, none⟩ = some (.string vv) := hpb5.cell 1
                  have HO5 : Hid (OwnPairs w5 w.heap.size (.slice p' k c') Q) := HK4.out.below0 hB5
                  clear hmay hB5 hpb4 hpb5 hO4 HK4
                  cases r with
                  | true =>
                    have HMY : Hid (Made m (Q ++ [(kk, vv)])) := ⟨may_of_last (hr.1 rfl) HKV.out.1, HO.out.2.2.2.least, HO.out.2.2.2.most, by rw [List.length_append]; have := HO.out.1; show Q.length + 1 ≤ 60; omega, fun q hq => by
                      rcases List.mem_append.1 hq with hq | hq
                      · exact HO.out.2.2.2.vals q hq
                      · rw [List.mem_singleton.1 hq]; exact HKV.out.2⟩
                    have HO6 : Hid (OwnPairs (w5.alloc (.cells #[.string kk, .string vv] 33)) w.heap.size (.slice p' k c') Q ∧ PairAt (w5.alloc (.cells #[.string kk, .string vv] 33)) w5.heap.size 0 (kk, vv) ∧ w.heap.size ≤ (w5.alloc (.cells #[.string kk, .string vv] 33)).heap.size) :=
                      ⟨HO5.out.below0 ((Below.refl _ _).alloc (Nat.le_refl _) _), pair_new w5 kk vv, by rw [World.size_alloc]; have := HB5.out.size; omega⟩
                    clear hr
                    go_wp2_with (first
                      | (at_builtin
                         refine wpList_append_one (base := w.heap.size) (K := Q) (p := (kk, vv)) (g := w5.heap.size) rfl _ _ rfl rfl rfl HO6.out.1 HO6.out.2.1 (by have := HO.out.2.1; have := HO.out.1; omega) HO6.out.2.2 ?_
                         intro v6 w6 hO7 _ hg6
                         obtain ⟨p6, c6, hv6⟩ := hO7.at.shape
                         rw [HML.out] at hv6
                         subst hv6)
                      | fail)
                    have HB6 : Hid (Below w.heap.size w w6) := below_grownT (HB5.out.alloc HB5.out.size _) hg6 fun q hq => (HO6.out.1.lt q hq).1
                    have HO7 : Hid (OwnPairs w6 w.heap.size (.slice p6 (k + 1) c6) (Q ++ [(kk, vv)])) := hO7
                    clear hg6 hO7
                    go_roundw
                    case rel => exact ⟨i + 1, p6, k + 1, c6, Q ++ [(kk, vv)], by omega, by simp, rfl, ⟨HML.out.symm, by omega, HO7.out, HMY.out⟩, HB6.out⟩
                    case measure => simp [intOf]; omega
                  | false =>
                    clear hr
                    go_wp2_with fail
                    go_roundw
                    case rel => exact ⟨i + 1, p', k, c', Q, by omega, by simp, rfl, ⟨HO.out.1, HO.out.2.1, HO5.out, HO.out.2.2.2⟩, HB5.out⟩
                    case measure => simp [intOf]; omega
                · have hc2i : ¬ (100 : Int) < x2.size := by omega
                  by_cases he2 : x2.size = 0
                  · have ev := isEmpty0 x2 he2
                    have hvv : (⟨#[118]⟩ : ByteArray).size ≤ 100 := by decide
                    clear he2 hc2
                    have HKV : Hid (kk.size = m ∧ (⟨#[118]⟩ : ByteArray).size ≤ 100) := ⟨HKK.out.1, hvv⟩
                    have HML : Hid ((Q ++ [(kk, (⟨#[118]⟩ : ByteArray))]).length = k + 1) := by show _ = _; rw [List.length_append, ← HO.out.1]; rfl
                    have HKS : Hid (∀ q ∈ Q ++ [(kk, (⟨#[118]⟩ : ByteArray))], q.1.size ≤ 1000000) := fun q hq => by
                      rcases List.mem_append.1 hq with hq | hq
                      · have h1 := HO.out.2.2.2.may.len q hq
                        have h2 : (kb q).length = q.1.size := rfl
                        have := HO.out.2.2.2.most
                        omega
                      · rw [List.mem_singleton.1 hq]
                        have := HKK.out.1
                        show kk.size ≤ _
                        omega
                    have hB34 : Below w3.heap.size w3 ((w3.alloc (.cells #[.string kk, .string (⟨#[118]⟩ : ByteArray)] 33)).alloc (.cells #[.string kk, .string (⟨#[118]⟩ : ByteArray)] 33)) := ((Below.refl _ _).alloc (Nat.le_refl _) _).alloc (by rw [World.size_alloc]; omega) _
                    have HAP : Hid (OwnPairs ((w3.alloc (.cells #[.string kk, .string (⟨#[118]⟩ : ByteArray)] 33)).alloc (.cells #[.string kk, .string (⟨#[118]⟩ : ByteArray)] 33)) w.heap.size (.slice p' k c') Q ∧ PairAt ((w3.alloc (.cells #[.string kk, .string (⟨#[118]⟩ : ByteArray)] 33)).alloc (.cells #[.string kk, .string (⟨#[118]⟩ : ByteArray)] 33)) (w3.heap.size + 1) 0 (kk, (⟨#[118]⟩ : ByteArray)) ∧ w.heap.size ≤ ((w3.alloc (.cells #[.string kk, .string (⟨#[118]⟩ : ByteArray)] 33)).alloc (.cells #[.string kk, .string (⟨#[118]⟩ : ByteArray)] 33)).heap.size) := by
                      refine ⟨HO3.out.below0 hB34, ?_, by have := hB34.size; have := HB3.out.size; omega⟩
                      have := pair_new (w3.alloc (.cells #[.string kk, .string (⟨#[118]⟩ : ByteArray)] 33)) kk (⟨#[118]⟩ : ByteArray)
                      rwa [World.size_alloc] at this
                    have HBP : Hid (Below w.heap.size w (w3.alloc (.cells #[.string kk, .string (⟨#[118]⟩ : ByteArray)] 33)) ∧ True) := ⟨HB3.out.alloc HB3.out.size _, trivial⟩
                    have HNB : Hid (some w3.heap.size ≠ (Value.slice p' k c').ownBlock) := fun e => by
                      have := HO3.out.lt w3.heap.size e.symm
                      omega
                    clear hB34
                    go_wp2_with (first
                      | (at_builtin
                         refine wpList_append_one (base := w.heap.size) (K := Q) (p := (kk, (⟨#[118]⟩ : ByteArray))) (g := w3.heap.size + 1) rfl _ _ rfl rfl rfl HAP.out.1 HAP.out.2.1 (by have := HO.out.2.1; have := HO.out.1; omega) HAP.out.2.2 ?_
                         intro v4 w4 hO4 hK4 hg4
                         obtain ⟨p4, c4, hv4⟩ := hO4.at.shape
                         rw [HML.out] at hv4
                         subst hv4)
                      | fail)
                    have HB4 : Hid (Below w.heap.size w w4) := below_grownT (HBP.out.1.alloc HBP.out.1.size _) hg4 fun q hq => (HAP.out.1.lt q hq).1
                    have hpb4 : K.Holds w4 w3.heap.size 33 #[.string kk, .string (⟨#[118]⟩ : ByteArray)] := (hg4.block _ (by rw [World.size_alloc, World.size_alloc]; omega) (fun e => HNB.out e)).trans ((K.Holds.new w3 _ _).alloc _)
                    have hmay := qmay_any _ (Q ++ [(kk, (⟨#[118]⟩ : ByteArray))]) w4 hO4.at (by rw [List.length_append]; have := HO.out.2.1; have := HO.out.1; show Q.length + 1 ≤ _; omega) (fun q hq => HKS.out q hq)
                    have HK4 : Hid (OwnPairs w4 w.heap.size (.slice p' k c') Q) := hK4
                    clear hg4 hK4
                    refine hmay.mono ?_
                    rintro e w5 ⟨r, rfl, hr, hB5⟩
                    have HB5 : Hid (Below w.heap.size w w5) := HB4.out.trans (hB5.mono HB4.out.size)
                    have hpb5 := K.Below.holds hB5 hpb4
                    have cp1 : w5.cell? ⟨w3.heap.size, 0, none⟩ = some (.string kk) := hpb5.cell 0
                    have cp2 : w5.cell? ⟨w3.heap.size, 1, none⟩ = some (.string (⟨#[118]⟩ : ByteArray)) := hpb5.cell 1
                    have HO5 : Hid (OwnPairs w5 w.heap.size (.slice p' k c') Q) := HK4.out.below0 hB5
                    clear hmay hB5 hpb4 hpb5 hO4 HK4
                    cases r with
                    | true =>
                      have HMY : Hid (Made m (Q ++ [(kk, (⟨#[118]⟩ : ByteArray))])) := ⟨may_of_last (hr.1 rfl) HKV.out.1, HO.out.2.2.2.least, HO.out.2.2.2.most, by rw [List.length_append]; have := HO.out.1; show Q.length + 1 ≤ 60; omega, fun q hq => by
                        rcases List.mem_append.1 hq with hq | hq
                        · exact HO.out.2.2.2.vals q hq
                        · rw [List.mem_singleton.1 hq]; exact HKV.out.2⟩
                      have HO6 : Hid (OwnPairs (w5.alloc (.cells #[.string kk, .string (⟨#[118]⟩ : ByteArray)] 33)) w.heap.size (.slice p' k c') Q ∧ PairAt (w5.alloc (.cells #[.string kk, .string (⟨#[118]⟩ : ByteArray)] 33)) w5.heap.size 0 (kk, (⟨#[118]⟩ : ByteArray)) ∧ w.heap.size ≤ (w5.alloc (.cells #[.string kk, .string (⟨#[118]⟩ : ByteArray)] 33)).heap.size) :=
                        ⟨HO5.out.below0 ((Below.refl _ _).alloc (Nat.le_refl _) _), pair_new w5 kk (⟨#[118]⟩ : ByteArray), by rw [World.size_alloc]; have := HB5.out.size; omega⟩
                      clear hr
                      go_wp2_with (first
                        | (at_builtin
                           refine wpList_append_one (base := w.heap.size) (K := Q) (p := (kk, (⟨#[118]⟩ : ByteArray))) (g := w5.heap.size) rfl _ _ rfl rfl rfl HO6.out.1 HO6.out.2.1 (by have := HO.out.2.1; have := HO.out.1; omega) HO6.out.2.2 ?_
                           intro v6 w6 hO7 _ hg6
                           obtain ⟨p6, c6, hv6⟩ := hO7.at.shape
                           rw [HML.out] at hv6
                           subst hv6)
                        | fail)
                      have HB6 : Hid (Below w.heap.size w w6) := below_grownT (HB5.out.alloc HB5.out.size _) hg6 fun q hq => (HO6.out.1.lt q hq).1
                      have HO7 : Hid (OwnPairs w6 w.heap.size (.slice p6 (k + 1) c6) (Q ++ [(kk, (⟨#[118]⟩ : ByteArray))])) := hO7
                      clear hg6 hO7
                      go_roundw
                      case rel => exact ⟨i + 1, p6, k + 1, c6, Q ++ [(kk, (⟨#[118]⟩ : ByteArray))], by omega, by simp, rfl, ⟨HML.out.symm, by omega, HO7.out, HMY.out⟩, HB6.out⟩
                      case measure => simp [intOf]; omega
                    | false =>
                      clear hr
                      go_wp2_with fail
                      go_roundw
                      case rel => exact ⟨i + 1, p', k, c', Q, by omega, by simp, rfl, ⟨HO.out.1, HO.out.2.1, HO5.out, HO.out.2.2.2⟩, HB5.out⟩
                      case measure => simp [intOf]; omega
                  · have ev := notEmpty x2 he2
                    have hvv : x2.size ≤ 100 := by omega
                    clear he2 hc2
                    have HKV : Hid (kk.size = m ∧ x2.size ≤ 100) := ⟨HKK.out.1, hvv⟩
                    have HML : Hid ((Q ++ [(kk, x2)]).length = k + 1) := by show _ = _; rw [List.length_append, ← HO.out.1]; rfl
                    have HKS : Hid (∀ q ∈ Q ++ [(kk, x2)], q.1.size ≤ 1000000) := fun q hq => by
                      rcases List.mem_append.1 hq with hq | hq
                      · have h1 := HO.out.2.2.2.may.len q hq
                        have h2 : (kb q).length = q.1.size := rfl
                        have := HO.out.2.2.2.most
                        omega
                      · rw [List.mem_singleton.1 hq]
                        have := HKK.out.1
                        show kk.size ≤ _
                        omega
                    have hB34 : Below w3.heap.size w3 ((w3.alloc (.cells #[.string kk, .string x2] 33)).alloc (.cells #[.string kk, .string x2] 33)) := ((Below.refl _ _).alloc (Nat.le_refl _) _).alloc (by rw [World.size_alloc]; omega) _
                    have HAP : Hid (OwnPairs ((w3.alloc (.cells #[.string kk, .string x2] 33)).alloc (.cells #[.string kk, .string x2] 33)) w.heap.size (.slice p' k c') Q ∧ PairAt ((w3.alloc (.cells #[.string kk, .string x2] 33)).alloc (.cells #[.string kk, .string x2] 33)) (w3.heap.size + 1) 0 (kk, x2) ∧ w.heap.size ≤ ((w3.alloc (.cells #[.string kk, .string x2] 33)).alloc (.cells #[.string kk, .string x2] 33)).heap.size) := by
                      refine ⟨HO3.out.below0 hB34, ?_, by have := hB34.size; have := HB3.out.size; omega⟩
                      have := pair_new (w3.alloc (.cells #[.string kk, .string x2] 33)) kk x2
                      rwa [World.size_alloc] at this
                    have HBP : Hid (Below w.heap.size w (w3.alloc (.cells #[.string kk, .string x2] 33)) ∧ True) := ⟨HB3.out.alloc HB3.out.size _, trivial⟩
                    have HNB : Hid (some w3.heap.size ≠ (Value.slice p' k c').ownBlock) := fun e => by
                      have := HO3.out.lt w3.heap.size e.symm
                      omega
                    clear hB34
                    go_wp2_with (first
                      | (at_builtin
                         refine wpList_append_one (base := w.heap.size) (K := Q) (p := (kk, x2)) (g := w3.heap.size + 1) rfl _ _ rfl rfl rfl HAP.out.1 HAP.out.2.1 (by have := HO.out.2.1; have := HO.out.1; omega) HAP.out.2.2 ?_
                         intro v4 w4 hO4 hK4 hg4
                         obtain ⟨p4, c4, hv4⟩ := hO4.at.shape
                         rw [HML.out] at hv4
                         subst hv4)
                      | fail)
                    have HB4 : Hid (Below w.heap.size w w4) := below_grownT (HBP.out.1.alloc HBP.out.1.size _) hg4 fun q hq => (HAP.out.1.lt q hq).1
                    have hpb4 : K.Holds w4 w3.heap.size 33 #[.string kk, .string x2] := (hg4.block _ (by rw [World.size_alloc, World.size_alloc]; omega) (fun e => HNB.out e)).trans ((K.Holds.new w3 _ _).alloc _)
                    have hmay := qmay_any _ (Q ++ [(kk, x2)]) w4 hO4.at (by rw [List.length_append]; have := HO.out.2.1; have := HO.out.1; show Q.length + 1 ≤ _; omega) (fun q hq => HKS.out q hq)
                    have HK4 : Hid (OwnPairs w4 w.heap.size (.slice p' k c') Q) := hK4
                    clear hg4 hK4
                    refine hmay.mono ?_
                    rintro e w5 ⟨r, rfl, hr, hB5⟩
                    have HB5 : Hid (Below w.heap.size w w5) := HB4.out.trans (hB5.mono HB4.out.size)
                    have hpb5 := K.Below.holds hB5 hpb4
                    have cp1 : w5.cell? ⟨w3.heap.size, 0, none⟩ = some (.string kk) := hpb5.cell 0
                    have cp2 : w5.cell? ⟨w3.heap.size, 1, none⟩ = some (.string x2) := hpb5.cell 1
                    have HO5 : Hid (OwnPairs w5 w.heap.size (.slice p' k c') Q) := HK4.out.below0 hB5
                    clear hmay hB5 hpb4 hpb5 hO4 HK4
                    cases r with
                    | true =>
                      have HMY : Hid (Made m (Q ++ [(kk, x2)])) := ⟨may_of_last (hr.1 rfl) HKV.out.1, HO.out.2.2.2.least, HO.out.2.2.2.most, by rw [List.length_append]; have := HO.out.1; show Q.length + 1 ≤ 60; omega, fun q hq => by
                        rcases List.mem_append.1 hq with hq | hq
                        · exact HO.out.2.2.2.vals q hq
                        · rw [List.mem_singleton.1 hq]; exact HKV.out.2⟩
                      have HO6 : Hid (OwnPairs (w5.alloc (.cells #[.string kk, .string x2] 33)) w.heap.size (.slice p' k c') Q ∧ PairAt (w5.alloc (.cells #[.string kk, .string x2] 33)) w5.heap.size 0 (kk, x2) ∧ w.heap.size ≤ (w5.alloc (.cells #[.string kk, .string x2] 33)).heap.size) :=
                        ⟨HO5.out.below0 ((Below.refl _ _).alloc (Nat.le_refl _) _), pair_new w5 kk x2, by rw [World.size_alloc]; have := HB5.out.size; omega⟩
                      clear hr
                      go_wp2_with (first
                        | (at_builtin
                           refine wpList_append_one (base := w.heap.size) (K := Q) (p := (kk, x2)) (g := w5.heap.size) rfl _ _ rfl rfl rfl HO6.out.1 HO6.out.2.1 (by have := HO.out.2.1; have := HO.out.1; omega) HO6.out.2.2 ?_
                           intro v6 w6 hO7 _ hg6
                           obtain ⟨p6, c6, hv6⟩ := hO7.at.shape
                           rw [HML.out] at hv6
                           subst hv6)
                        | fail)
                      have HB6 : Hid (Below w.heap.size w w6) := below_grownT (HB5.out.alloc HB5.out.size _) hg6 fun q hq => (HO6.out.1.lt q hq).1
                      have HO7 : Hid (OwnPairs w6 w.heap.size (.slice p6 (k + 1) c6) (Q ++ [(kk, x2)])) := hO7
                      clear hg6 hO7
                      go_roundw
                      case rel => exact ⟨i + 1, p6, k + 1, c6, Q ++ [(kk, x2)], by omega, by simp, rfl, ⟨HML.out.symm, by omega, HO7.out, HMY.out⟩, HB6.out⟩
                      case measure => simp [intOf]; omega
                    | false =>
                      clear hr
                      go_wp2_with fail
                      go_roundw
                      case rel => exact ⟨i + 1, p', k, c', Q, by omega, by simp, rfl, ⟨HO.out.1, HO.out.2.1, HO5.out, HO.out.2.2.2⟩, HB5.out⟩
                      case measure => simp [intOf]; omega
          · have hc1i : ¬ (32 : Int) < x1.size := by omega
            have hys : x1.size ≤ 32 := by omega
            clear hc1
            go_wp2_with fail
            refine (refOf_any x1 _ (by omega)).mono ?_
            rintro e w3 ⟨rfl, hB3⟩
            have hh0s := hal_size x1
            have hh0r := right_hal x1.data.toList
            obtain ⟨h0, hh0⟩ : ∃ h0 : ByteArray, (⟨(hal x1.data.toList).toArray⟩ : ByteArray) = h0 := ⟨_, rfl⟩
            have hh0r' : rightL h0.data.toList = true := by rw [← hh0]; exact hh0r
            rw [hh0] at hh0s ⊢
            have HB3 : Hid (Below w.heap.size w w3) := HB.out.trans (hB3.mono HB.out.size)
            have HO3 : Hid (OwnPairs w3 w.heap.size (.slice p' k c') Q) := HO.out.2.2.1.below0 hB3
            have q23 : w3.cell? ⟨b, o + i * 2 + 1, none⟩ = some (.string x2) := by
              rw [hB3.cell (p := ⟨b, o + i * 2 + 1, none⟩) (World.block_lt_of_cell? wr _ q2)]; exact q2
            have HH0 : Hid (h0.size ≤ 64 ∧ rightL h0.data.toList = true) := ⟨by omega, hh0r'⟩
            clear hB3 hh0s hh0r hh0 hh0r' q1 q2
            go_wp2_with fail
            go_loopw [8] (fun s w2 => ∃ h : ByteArray, s = .string h ∧ w3 = w2 ∧ Hid (h.size ≤ 64 ∧ rightL h.data.toList = true)) (fun s _ => m - strLen s)
            case atStart => exact ⟨h0, rfl, rfl, HH0.out⟩
            case round =>
              obtain ⟨h, rfl, rfl, HH⟩ := hrel
              by_cases hpad : h.size < m
              · have hpi : (h.size : Int) < m := by omega
                have hps : (h.size : Int) + 1 ≤ 9223372036854775807 := by omega
                have HH2 : Hid ((h ++ (⟨#[0]⟩ : ByteArray)).size = h.size + 1 ∧ rightL (h ++ (⟨#[0]⟩ : ByteArray)).data.toList = true) := by
                  refine ⟨by rw [ByteArray.size_append]; rfl, ?_⟩
                  rw [strcat]
                  show rightL (h.data.toList ++ [0]) = true
                  unfold rightL
                  rw [List.all_append]
                  have := HH.out.2
                  unfold rightL at this
                  rw [this]; rfl
                go_wp2_with fail
                go_roundw
                case rel => exact ⟨_, rfl, trivial, by rw [HH2.out.1]; omega, HH2.out.2⟩
                case measure =>
                  show m - (h ++ (⟨#[0]⟩ : ByteArray)).size < m - h.size
                  rw [HH2.out.1]; omega
              · have hpi : ¬ (h.size : Int) < m := by omega
                obtain ⟨kk, hkke⟩ : ∃ kk, h.extract 0 m = kk := ⟨_, rfl⟩
                have SK : ∀ W : World, (Instr.sliceAt 9 (.string h) none (some (.int .i64 (m : Int))) none).run Tryd.prog W = .ok (.string kk) W := fun W => by rw [← hkke]; exact slice_cut h m (by omega) W
                have HKK : Hid (kk.size = m ∧ True) := ⟨by rw [← hkke, ByteArray.size_extract]; omega, trivial⟩
                clear hkke hpad
                by_cases hc2 : 100 < x2.size
                · obtain ⟨vv, hvve⟩ : ∃ vv, x2.extract 0 100 = vv := ⟨_, rfl⟩
                  have hcut2 : ∀ W : World, (Instr.sliceAt 9 (.string x2) none (some (.int .i64 100)) none).run Tryd.prog W = .ok (.string vv) W := fun W => by rw [← hvve]; exact slice_cut x2 100 (by omega) W
                  have hvs : vv.size = 100 := by rw [← hvve, ByteArray.size_extract]; omega
                  have hvv : vv.size ≤ 100 := by omega
                  have ev := notEmpty vv (by omega)
                  have hc2i : (100 : Int) < x2.size := by omega
                  clear hvve hvs hc2
                  have HKV : Hid (kk.size = m ∧ vv.size ≤ 100) := ⟨HKK.out.1, hvv⟩
                  have HML : Hid ((Q ++ [(kk, vv)]).length = k + 1) := by show _ = _; rw [List.length_append, ← HO.out.1]; rfl
                  have HKS : Hid (∀ q ∈ Q ++ [(kk, vv)], q.1.size ≤ 1000000) := fun q hq => by
                    rcases List.mem_append.1 hq with hq | hq
                    · have h1 := HO.out.2.2.2.may.len q hq
                      have h2 : (kb q).length = q.1.size := rfl
                      have := HO.out.2.2.2.most
                      omega
                    · rw [List.mem_singleton.1 hq]
                      have := HKK.out.1
                      show kk.size ≤ _
                      omega
                  have hB34 : Below w3.heap.size w3 ((w3.alloc (.cells #[.string kk, .string vv] 33)).alloc (.cells #[.string kk, .string vv] 33)) := ((Below.refl _ _).alloc (Nat.le_refl _) _).alloc (by rw [World.size_alloc]; omega) _
                  have HAP : Hid (OwnPairs ((w3.alloc (.cells #[.string kk, .string vv] 33)).alloc (.cells #[.string kk, .string vv] 33)) w.heap.size (.slice p' k c') Q ∧ PairAt ((w3.alloc (.cells #[.string kk, .string vv] 33)).alloc (.cells #[.string kk, .string vv] 33)) (w3.heap.size + 1) 0 (kk, vv) ∧ w.heap.size ≤ ((w3.alloc (.cells #[.string kk, .string vv] 33)).alloc (.cells #[.string kk, .string vv] 33)).heap.size) := by
                    refine ⟨HO3.out.below0 hB34, ?_, by have := hB34.size; have := HB3.out.size; omega⟩
                    have := pair_new (w3.alloc (.cells #[.string kk, .string vv] 33)) kk vv
                    rwa [World.size_alloc] at this
                  have HBP : Hid (Below w.heap.size w (w3.alloc (.cells #[.string kk, .string vv] 33)) ∧ True) := ⟨HB3.out.alloc HB3.out.size _, trivial⟩
                  have HNB : Hid (some w3.heap.size ≠ (Value.slice p' k c').ownBlock) := fun e => by
                    have := HO3.out.lt w3.heap.size e.symm
                    omega
                  clear hB34
                  go_wp2_with (first
                    | (at_builtin
                       refine wpList_append_one (base := w.heap.size) (K := Q) (p := (kk, vv)) (g := w3.heap.size + 1) rfl _ _ rfl rfl rfl HAP.out.1 HAP.out.2.1 (by have := HO.out.2.1; have := HO.out.1; omega) HAP.out.2.2 ?_
                       intro v4 w4 hO4 hK4 hg4
                       obtain ⟨p4, c4, hv4⟩ := hO4.at.shape
                       rw [HML.out] at hv4
                       subst hv4)
                    | fail)
                  have HB4 : Hid (Below w.heap.size w w4) := below_grownT (HBP.out.1.alloc HBP.out.1.size _) hg4 fun q hq => (HAP.out.1.lt q hq).1
                  have hpb4 : K.Holds w4 w3.heap.size 33 #[.string kk, .string vv] := (hg4.block _ (by rw [World.size_alloc, World.size_alloc]; omega) (fun e => HNB.out e)).trans ((K.Holds.new w3 _ _).alloc _)
                  have hmay := qmay_any _ (Q ++ [(kk, vv)]) w4 hO4.at (by rw [List.length_append]; have := HO.out.2.1; have := HO.out.1; show Q.length + 1 ≤ _; omega) (fun q hq => HKS.out q hq)
                  have HK4 : Hid (OwnPairs w4 w.heap.size (.slice p' k c') Q) := hK4
                  clear hg4 hK4
                  refine hmay.mono ?_
                  rintro e w5 ⟨r, rfl, hr, hB5⟩
                  have HB5 : Hid (Below w.heap.size w w5) := HB4.out.trans (hB5.mono HB4.out.size)
                  have hpb5 := K.Below.holds hB5 hpb4
                  have cp1 : w5.cell? ⟨w3.heap.size, 0, none⟩ = some (.string kk) := hpb5.cell 0
                  have cp2 : w5.cell? ⟨w3.heap.size, 1, none⟩ = some (.string vv) := hpb5.cell 1
                  have HO5 : Hid (OwnPairs w5 w.heap.size (.slice p' k c') Q) := HK4.out.below0 hB5
                  clear hmay hB5 hpb4 hpb5 hO4 HK4
                  cases r with
                  | true =>
                    have HMY : Hid (Made m (Q ++ [(kk, vv)])) := ⟨may_of_last (hr.1 rfl) HKV.out.1, HO.out.2.2.2.least, HO.out.2.2.2.most, by rw [List.length_append]; have := HO.out.1; show Q.length + 1 ≤ 60; omega, fun q hq => by
                      rcases List.mem_append.1 hq with hq | hq
                      · exact HO.out.2.2.2.vals q hq
                      · rw [List.mem_singleton.1 hq]; exact HKV.out.2⟩
                    have HO6 : Hid (OwnPairs (w5.alloc (.cells #[.string kk, .string vv] 33)) w.heap.size (.slice p' k c') Q ∧ PairAt (w5.alloc (.cells #[.string kk, .string vv] 33)) w5.heap.size 0 (kk, vv) ∧ w.heap.size ≤ (w5.alloc (.cells #[.string kk, .string vv] 33)).heap.size) :=
                      ⟨HO5.out.below0 ((Below.refl _ _).alloc (Nat.le_refl _) _), pair_new w5 kk vv, by rw [World.size_alloc]; have := HB5.out.size; omega⟩
                    clear hr
                    go_wp2_with (first
                      | (at_builtin
                         refine wpList_append_one (base := w.heap.size) (K := Q) (p := (kk, vv)) (g := w5.heap.size) rfl _ _ rfl rfl rfl HO6.out.1 HO6.out.2.1 (by have := HO.out.2.1; have := HO.out.1; omega) HO6.out.2.2 ?_
                         intro v6 w6 hO7 _ hg6
                         obtain ⟨p6, c6, hv6⟩ := hO7.at.shape
                         rw [HML.out] at hv6
                         subst hv6)
                      | fail)
                    have HB6 : Hid (Below w.heap.size w w6) := below_grownT (HB5.out.alloc HB5.out.size _) hg6 fun q hq => (HO6.out.1.lt q hq).1
                    have HO7 : Hid (OwnPairs w6 w.heap.size (.slice p6 (k + 1) c6) (Q ++ [(kk, vv)])) := hO7
                    clear hg6 hO7
                    go_roundw
                    case rel => exact ⟨i + 1, p6, k + 1, c6, Q ++ [(kk, vv)], by omega, by simp, rfl, ⟨HML.out.symm, by omega, HO7.out, HMY.out⟩, HB6.out⟩
                    case measure => simp [intOf]; omega
                  | false =>
                    clear hr
                    go_wp2_with fail
                    go_roundw
                    case rel => exact ⟨i + 1, p', k, c', Q, by omega, by simp, rfl, ⟨HO.out.1, HO.out.2.1, HO5.out, HO.out.2.2.2⟩, HB5.out⟩
                    case measure => simp [intOf]; omega
                · have hc2i : ¬ (100 : Int) < x2.size := by omega
                  by_cases he2 : x2.size = 0
                  · have ev := isEmpty0 x2 he2
                    have hvv : (⟨#[118]⟩ : ByteArray).size ≤ 100 := by decide
                    clear he2 hc2
                    have HKV : Hid (kk.size = m ∧ (⟨#[118]⟩ : ByteArray).size ≤ 100) := ⟨HKK.out.1, hvv⟩
                    have HML : Hid ((Q ++ [(kk, (⟨#[118]⟩ : ByteArray))]).length = k + 1) := by show _ = _; rw [List.length_append, ← HO.out.1]; rfl
                    have HKS : Hid (∀ q ∈ Q ++ [(kk, (⟨#[118]⟩ : ByteArray))], q.1.size ≤ 1000000) := fun q hq => by
                      rcases List.mem_append.1 hq with hq | hq
                      · have h1 := HO.out.2.2.2.may.len q hq
                        have h2 : (kb q).length = q.1.size := rfl
                        have := HO.out.2.2.2.most
                        omega
                      · rw [List.mem_singleton.1 hq]
                        have := HKK.out.1
                        show kk.size ≤ _
                        omega
                    have hB34 : Below w3.heap.size w3 ((w3.alloc (.cells #[.string kk, .string (⟨#[118]⟩ : ByteArray)] 33)).alloc (.cells #[.string kk, .string (⟨#[118]⟩ : ByteArray)] 33)) := ((Below.refl _ _).alloc (Nat.le_refl _) _).alloc (by rw [World.size_alloc]; omega) _
                    have HAP : Hid (OwnPairs ((w3.alloc (.cells #[.string kk, .string (⟨#[118]⟩ : ByteArray)] 33)).alloc (.cells #[.string kk, .string (⟨#[118]⟩ : ByteArray)] 33)) w.heap.size (.slice p' k c') Q ∧ PairAt ((w3.alloc (.cells #[.string kk, .string (⟨#[118]⟩ : ByteArray)] 33)).alloc (.cells #[.string kk, .string (⟨#[118]⟩ : ByteArray)] 33)) (w3.heap.size + 1) 0 (kk, (⟨#[118]⟩ : ByteArray)) ∧ w.heap.size ≤ ((w3.alloc (.cells #[.string kk, .string (⟨#[118]⟩ : ByteArray)] 33)).alloc (.cells #[.string kk, .string (⟨#[118]⟩ : ByteArray)] 33)).heap.size) := by
                      refine ⟨HO3.out.below0 hB34, ?_, by have := hB34.size; have := HB3.out.size; omega⟩
                      have := pair_new (w3.alloc (.cells #[.string kk, .string (⟨#[118]⟩ : ByteArray)] 33)) kk (⟨#[118]⟩ : ByteArray)
                      rwa [World.size_alloc] at this
                    have HBP : Hid (Below w.heap.size w (w3.alloc (.cells #[.string kk, .string (⟨#[118]⟩ : ByteArray)] 33)) ∧ True) := ⟨HB3.out.alloc HB3.out.size _, trivial⟩
                    have HNB : Hid (some w3.heap.size ≠ (Value.slice p' k c').ownBlock) := fun e => by
                      have := HO3.out.lt w3.heap.size e.symm
                      omega
                    clear hB34
                    go_wp2_with (first
                      | (at_builtin
                         refine wpList_append_one (base := w.heap.size) (K := Q) (p := (kk, (⟨#[118]⟩ : ByteArray))) (g := w3.heap.size + 1) rfl _ _ rfl rfl rfl HAP.out.1 HAP.out.2.1 (by have := HO.out.2.1; have := HO.out.1; omega) HAP.out.2.2 ?_
                         intro v4 w4 hO4 hK4 hg4
                         obtain ⟨p4, c4, hv4⟩ := hO4.at.shape
                         rw [HML.out] at hv4
                         subst hv4)
                      | fail)
                    have HB4 : Hid (Below w.heap.size w w4) := below_grownT (HBP.out.1.alloc HBP.out.1.size _) hg4 fun q hq => (HAP.out.1.lt q hq).1
                    have hpb4 : K.Holds w4 w3.heap.size 33 #[.string kk, .string (⟨#[118]⟩ : ByteArray)] := (hg4.block _ (by rw [World.size_alloc, World.size_alloc]; omega) (fun e => HNB.out e)).trans ((K.Holds.new w3 _ _).alloc _)
                    have hmay := qmay_any _ (Q ++ [(kk, (⟨#[118]⟩ : ByteArray))]) w4 hO4.at (by rw [List.length_append]; have := HO.out.2.1; have := HO.out.1; show Q.length + 1 ≤ _; omega) (fun q hq => HKS.out q hq)
                    have HK4 : Hid (OwnPairs w4 w.heap.size (.slice p' k c') Q) := hK4
                    clear hg4 hK4
                    refine hmay.mono ?_
                    rintro e w5 ⟨r, rfl, hr, hB5⟩
                    have HB5 : Hid (Below w.heap.size w w5) := HB4.out.trans (hB5.mono HB4.out.size)
                    have hpb5 := K.Below.holds hB5 hpb4
                    have cp1 : w5.cell? ⟨w3.heap.size, 0, none⟩ = some (.string kk) := hpb5.cell 0
                    have cp2 : w5.cell? ⟨w3.heap.size, 1, none⟩ = some (.string (⟨#[118]⟩ : ByteArray)) := hpb5.cell 1
                    have HO5 : Hid (OwnPairs w5 w.heap.size (.slice p' k c') Q) := HK4.out.below0 hB5
                    clear hmay hB5 hpb4 hpb5 hO4 HK4
                    cases r with
                    | true =>
                      have HMY : Hid (Made m (Q ++ [(kk, (⟨#[118]⟩ : ByteArray))])) := ⟨may_of_last (hr.1 rfl) HKV.out.1, HO.out.2.2.2.least, HO.out.2.2.2.most, by rw [List.length_append]; have := HO.out.1; show Q.length + 1 ≤ 60; omega, fun q hq => by
                        rcases List.mem_append.1 hq with hq | hq
                        · exact HO.out.2.2.2.vals q hq
                        · rw [List.mem_singleton.1 hq]; exact HKV.out.2⟩
                      have HO6 : Hid (OwnPairs (w5.alloc (.cells #[.string kk, .string (⟨#[118]⟩ : ByteArray)] 33)) w.heap.size (.slice p' k c') Q ∧ PairAt (w5.alloc (.cells #[.string kk, .string (⟨#[118]⟩ : ByteArray)] 33)) w5.heap.size 0 (kk, (⟨#[118]⟩ : ByteArray)) ∧ w.heap.size ≤ (w5.alloc (.cells #[.string kk, .string (⟨#[118]⟩ : ByteArray)] 33)).heap.size) :=
                        ⟨HO5.out.below0 ((Below.refl _ _).alloc (Nat.le_refl _) _), pair_new w5 kk (⟨#[118]⟩ : ByteArray), by rw [World.size_alloc]; have := HB5.out.size; omega⟩
                      clear hr
                      go_wp2_with (first
                        | (at_builtin
                           refine wpList_append_one (base := w.heap.size) (K := Q) (p := (kk, (⟨#[118]⟩ : ByteArray))) (g := w5.heap.size) rfl _ _ rfl rfl rfl HO6.out.1 HO6.out.2.1 (by have := HO.out.2.1; have := HO.out.1; omega) HO6.out.2.2 ?_
                           intro v6 w6 hO7 _ hg6
                           obtain ⟨p6, c6, hv6⟩ := hO7.at.shape
                           rw [HML.out] at hv6
                           subst hv6)
                        | fail)
                      have HB6 : Hid (Below w.heap.size w w6) := below_grownT (HB5.out.alloc HB5.out.size _) hg6 fun q hq => (HO6.out.1.lt q hq).1
                      have HO7 : Hid (OwnPairs w6 w.heap.size (.slice p6 (k + 1) c6) (Q ++ [(kk, (⟨#[118]⟩ : ByteArray))])) := hO7
                      clear hg6 hO7
                      go_roundw
                      case rel => exact ⟨i + 1, p6, k + 1, c6, Q ++ [(kk, (⟨#[118]⟩ : ByteArray))], by omega, by simp, rfl, ⟨HML.out.symm, by omega, HO7.out, HMY.out⟩, HB6.out⟩
                      case measure => simp [intOf]; omega
                    | false =>
                      clear hr
                      go_wp2_with fail
                      go_roundw
                      case rel => exact ⟨i + 1, p', k, c', Q, by omega, by simp, rfl, ⟨HO.out.1, HO.out.2.1, HO5.out, HO.out.2.2.2⟩, HB5.out⟩
                      case measure => simp [intOf]; omega
                  · have ev := notEmpty x2 he2
                    have hvv : x2.size ≤ 100 := by omega
                    clear he2 hc2
                    have HKV : Hid (kk.size = m ∧ x2.size ≤ 100) := ⟨HKK.out.1, hvv⟩
                    have HML : Hid ((Q ++ [(kk, x2)]).length = k + 1) := by show _ = _; rw [List.length_append, ← HO.out.1]; rfl
                    have HKS : Hid (∀ q ∈ Q ++ [(kk, x2)], q.1.size ≤ 1000000) := fun q hq => by
                      rcases List.mem_append.1 hq with hq | hq
                      · have h1 := HO.out.2.2.2.may.len q hq
                        have h2 : (kb q).length = q.1.size := rfl
                        have := HO.out.2.2.2.most
                        omega
                      · rw [List.mem_singleton.1 hq]
                        have := HKK.out.1
                        show kk.size ≤ _
                        omega
                    have hB34 : Below w3.heap.size w3 ((w3.alloc (.cells #[.string kk, .string x2] 33)).alloc (.cells #[.string kk, .string x2] 33)) := ((Below.refl _ _).alloc (Nat.le_refl _) _).alloc (by rw [World.size_alloc]; omega) _
                    have HAP : Hid (OwnPairs ((w3.alloc (.cells #[.string kk, .string x2] 33)).alloc (.cells #[.string kk, .string x2] 33)) w.heap.size (.slice p' k c') Q ∧ PairAt ((w3.alloc (.cells #[.string kk, .string x2] 33)).alloc (.cells #[.string kk, .string x2] 33)) (w3.heap.size + 1) 0 (kk, x2) ∧ w.heap.size ≤ ((w3.alloc (.cells #[.string kk, .string x2] 33)).alloc (.cells #[.string kk, .string x2] 33)).heap.size) := by
                      refine ⟨HO3.out.below0 hB34, ?_, by have := hB34.size; have := HB3.out.size; omega⟩
                      have := pair_new (w3.alloc (.cells #[.string kk, .string x2] 33)) kk x2
                      rwa [World.size_alloc] at this
                    have HBP : Hid (Below w.heap.size w (w3.alloc (.cells #[.string kk, .string x2] 33)) ∧ True) := ⟨HB3.out.alloc HB3.out.size _, trivial⟩
                    have HNB : Hid (some w3.heap.size ≠ (Value.slice p' k c').ownBlock) := fun e => by
                      have := HO3.out.lt w3.heap.size e.symm
                      omega
                    clear hB34
                    go_wp2_with (first
                      | (at_builtin
                         refine wpList_append_one (base := w.heap.size) (K := Q) (p := (kk, x2)) (g := w3.heap.size + 1) rfl _ _ rfl rfl rfl HAP.out.1 HAP.out.2.1 (by have := HO.out.2.1; have := HO.out.1; omega) HAP.out.2.2 ?_
                         intro v4 w4 hO4 hK4 hg4
                         obtain ⟨p4, c4, hv4⟩ := hO4.at.shape
                         rw [HML.out] at hv4
                         subst hv4)
                      | fail)
                    have HB4 : Hid (Below w.heap.size w w4) := below_grownT (HBP.out.1.alloc HBP.out.1.size _) hg4 fun q hq => (HAP.out.1.lt q hq).1
                    have hpb4 : K.Holds w4 w3.heap.size 33 #[.string kk, .string x2] := (hg4.block _ (by rw [World.size_alloc, World.size_alloc]; omega) (fun e => HNB.out e)).trans ((K.Holds.new w3 _ _).alloc _)
                    have hmay := qmay_any _ (Q ++ [(kk, x2)]) w4 hO4.at (by rw [List.length_append]; have := HO.out.2.1; have := HO.out.1; show Q.length + 1 ≤ _; omega) (fun q hq => HKS.out q hq)
                    have HK4 : Hid (OwnPairs w4 w.heap.size (.slice p' k c') Q) := hK4
                    clear hg4 hK4
                    refine hmay.mono ?_
                    rintro e w5 ⟨r, rfl, hr, hB5⟩
                    have HB5 : Hid (Below w.heap.size w w5) := HB4.out.trans (hB5.mono HB4.out.size)
                    have hpb5 := K.Below.holds hB5 hpb4
                    have cp1 : w5.cell? ⟨w3.heap.size, 0, none⟩ = some (.string kk) := hpb5.cell 0
                    have cp2 : w5.cell? ⟨w3.heap.size, 1, none⟩ = some (.string x2) := hpb5.cell 1
                    have HO5 : Hid (OwnPairs w5 w.heap.size (.slice p' k c') Q) := HK4.out.below0 hB5
                    clear hmay hB5 hpb4 hpb5 hO4 HK4
                    cases r with
                    | true =>
                      have HMY : Hid (Made m (Q ++ [(kk, x2)])) := ⟨may_of_last (hr.1 rfl) HKV.out.1, HO.out.2.2.2.least, HO.out.2.2.2.most, by rw [List.length_append]; have := HO.out.1; show Q.length + 1 ≤ 60; omega, fun q hq => by
                        rcases List.mem_append.1 hq with hq | hq
                        · exact HO.out.2.2.2.vals q hq
                        · rw [List.mem_singleton.1 hq]; exact HKV.out.2⟩
                      have HO6 : Hid (OwnPairs (w5.alloc (.cells #[.string kk, .string x2] 33)) w.heap.size (.slice p' k c') Q ∧ PairAt (w5.alloc (.cells #[.string kk, .string x2] 33)) w5.heap.size 0 (kk, x2) ∧ w.heap.size ≤ (w5.alloc (.cells #[.string kk, .string x2] 33)).heap.size) :=
                        ⟨HO5.out.below0 ((Below.refl _ _).alloc (Nat.le_refl _) _), pair_new w5 kk x2, by rw [World.size_alloc]; have := HB5.out.size; omega⟩
                      clear hr
                      go_wp2_with (first
                        | (at_builtin
                           refine wpList_append_one (base := w.heap.size) (K := Q) (p := (kk, x2)) (g := w5.heap.size) rfl _ _ rfl rfl rfl HO6.out.1 HO6.out.2.1 (by have := HO.out.2.1; have := HO.out.1; omega) HO6.out.2.2 ?_
                           intro v6 w6 hO7 _ hg6
                           obtain ⟨p6, c6, hv6⟩ := hO7.at.shape
                           rw [HML.out] at hv6
                           subst hv6)
                        | fail)
                      have HB6 : Hid (Below w.heap.size w w6) := below_grownT (HB5.out.alloc HB5.out.size _) hg6 fun q hq => (HO6.out.1.lt q hq).1
                      have HO7 : Hid (OwnPairs w6 w.heap.size (.slice p6 (k + 1) c6) (Q ++ [(kk, x2)])) := hO7
                      clear hg6 hO7
                      go_roundw
                      case rel => exact ⟨i + 1, p6, k + 1, c6, Q ++ [(kk, x2)], by omega, by simp, rfl, ⟨HML.out.symm, by omega, HO7.out, HMY.out⟩, HB6.out⟩
                      case measure => simp [intOf]; omega
                    | false =>
                      clear hr
                      go_wp2_with fail
                      go_roundw
                      case rel => exact ⟨i + 1, p', k, c', Q, by omega, by simp, rfl, ⟨HO.out.1, HO.out.2.1, HO5.out, HO.out.2.2.2⟩, HB5.out⟩
                      case measure => simp [intOf]; omega
        · have hki : ¬ (k : Int) < 60 := by omega
          go_wp2_with fail
          go_ret
          exact ⟨_, Q, m, rfl, HO.out.2.2.1, HO.out.2.2.2, HB.out⟩
      · have hlti : ¬ (i : Int) < N := by omega
        go_wp2_with fail
        go_ret
        exact ⟨_, Q, m, rfl, HO.out.2.2.1, HO.out.2.2.2, HB.out⟩
  · obtain ⟨m, hm⟩ : ∃ m : Nat, z + 1 = (m : Int) := ⟨(z + 1).toNat, by omega⟩
    have hm1 : 1 ≤ m ∧ m ≤ 64 := by omega
    have hwm : IntKind.i64.wrap (m : Int) = (m : Int) := by rw [IntKind.wrap_i64]; omega
    have HM1 : Hid (1 ≤ m ∧ m ≤ 64) := hm1
    go_enter Tryd.func16, Tryd.ntmps16
    go_wp2_with fail
    go_loopw [6, 7] (fun vo zz wr => ∃ (i : Nat) (p' : Option Addr) (k c' : Nat) (Q : List Pr), i ≤ N ∧ zz = .int .i64 (i : Nat) ∧ vo = .slice p' k c' ∧ Hid (k = Q.length ∧ k ≤ 60 ∧ OwnPairs wr w.heap.size (.slice p' k c') Q ∧ Made m Q) ∧ Hid (Below w.heap.size w wr)) (fun _ zz _ => N - (intOf zz).toNat)
    case atStart => exact ⟨0, none, 0, 0, [], by omega, rfl, rfl, ⟨rfl, by omega, OwnPairs.nil _ _, ⟨may_any_nil m, hm1.1, hm1.2, by simp, fun q hq => by cases hq⟩⟩, Below.refl _ _⟩
    case round =>
      obtain ⟨i, p', k, c', Q, hi, rfl, rfl, HO, HB⟩ := hrel
      by_cases hlt : i < N
      · have hlti : (i : Int) < N := by omega
        by_cases hk60 : k < 60
        · have hki : (k : Int) < 60 := by omega
          have hi00 : (0 : Int) ≤ i := by omega
          obtain ⟨x, hx⟩ : ∃ x, R[i]? = some x := ⟨_, List.getElem?_eq_getElem (by rw [HN.out]; exact hlt)⟩
          obtain ⟨b, o, hp1, hnl, hxa⟩ := HP.out.at hx
          subst hp1
          obtain ⟨x1, x2⟩ := x
          have q1 : wr.cell? ⟨b, o + i * 2, none⟩ = some (.string x1) := (hxa.below HB.out).1
          have q2 : wr.cell? ⟨b, o + i * 2 + 1, none⟩ = some (.string x2) := (hxa.below HB.out).2
          clear hx hxa hnl
          by_cases hc1 : 32 < x1.size
          · have hc1i : (32 : Int) < x1.size := by omega
            obtain ⟨y, hy⟩ : ∃ y, x1.extract 0 32 = y := ⟨_, rfl⟩
            have hcut1 : ∀ W : World, (Instr.sliceAt 9 (.string x1) none (some (.int .i64 32)) none).run Tryd.prog W = .ok (.string y) W := fun W => by rw [← hy]; exact slice_cut x1 32 (by omega) W
            have hys : y.size ≤ 32 := by rw [← hy, ByteArray.size_extract]; omega
            clear hy hc1
            go_wp2_with fail
            refine (refOf_any y _ (by omega)).mono ?_
            rintro e w3 ⟨rfl, hB3⟩
            have hh0s := hal_size y
            have hh0r := right_hal y.data.toList
            obtain ⟨h0, hh0⟩ : ∃ h0 : ByteArray, (⟨(hal y.data.toList).toArray⟩ : ByteArray) = h0 := ⟨_, rfl⟩
            have hh0r' : rightL h0.data.toList = true := by rw [← hh0]; exact hh0r
            rw [hh0] at hh0s ⊢
            have HB3 : Hid (Below w.heap.size w w3) := HB.out.trans (hB3.mono HB.out.size)
            have HO3 : Hid (OwnPairs w3 w.heap.size (.slice p' k c') Q) := HO.out.2.2.1.below0 hB3
            have q23 : w3.cell? ⟨b, o + i * 2 + 1, none⟩ = some (.string x2) := by
              rw [hB3.cell (p := ⟨b, o + i * 2 + 1, none⟩) (World.block_lt_of_cell? wr _ q2)]; exact q2
            have HH0 : Hid (h0.size ≤ 64 ∧ rightL h0.data.toList = true) := ⟨by omega, hh0r'⟩
            clear hB3 hh0s hh0r hh0 hh0r' q1 q2
            go_wp2_with fail
            go_loopw [8] (fun s w2 => ∃ h : ByteArray, s = .string h ∧ w3 = w2 ∧ Hid (h.size ≤ 64 ∧ rightL h.data.toList = true)) (fun s _ => m - strLen s)
            case atStart => exact ⟨h0, rfl, rfl, HH0.out⟩
            case round =>
              obtain ⟨h, rfl, rfl, HH⟩ := hrel
              by_cases hpad : h.size < m
              · have hpi : (h.size : Int) < m := by omega
                have hps : (h.size : Int) + 1 ≤ 9223372036854775807 := by omega
                have HH2 : Hid ((h ++ (⟨#[0]⟩ : ByteArray)).size = h.size + 1 ∧ rightL (h ++ (⟨#[0]⟩ : ByteArray)).data.toList = true) := by
                  refine ⟨by rw [ByteArray.size_append]; rfl, ?_⟩
                  rw [strcat]
                  show rightL (h.data.toList ++ [0]) = true
                  unfold rightL
                  rw [List.all_append]
                  have := HH.out.2
                  unfold rightL at this
                  rw [this]; rfl
                go_wp2_with fail
                go_roundw
                case rel => exact ⟨_, rfl, trivial, by rw [HH2.out.1]; omega, HH2.out.2⟩
                case measure =>
                  show m - (h ++ (⟨#[0]⟩ : ByteArray)).size < m - h.size
                  rw [HH2.out.1]; omega
              · have hpi : ¬ (h.size : Int) < m := by omega
                obtain ⟨kk, hkke⟩ : ∃ kk, h.extract 0 m = kk := ⟨_, rfl⟩
                have SK : ∀ W : World, (Instr.sliceAt 9 (.string h) none (some (.int .i64 (m : Int))) none).run Tryd.prog W = .ok (.string kk) W := fun W => by rw [← hkke]; exact slice_cut h m (by omega) W
                have HKK : Hid (kk.size = m ∧ True) := ⟨by rw [← hkke, ByteArray.size_extract]; omega, trivial⟩
                clear hkke hpad
                by_cases hc2 : 100 < x2.size
                · obtain ⟨vv, hvve⟩ : ∃ vv, x2.extract 0 100 = vv := ⟨_, rfl⟩
                  have hcut2 : ∀ W : World, (Instr.sliceAt 9 (.string x2) none (some (.int .i64 100)) none).run Tryd.prog W = .ok (.string vv) W := fun W => by rw [← hvve]; exact slice_cut x2 100 (by omega) W
                  have hvs : vv.size = 100 := by rw [← hvve, ByteArray.size_extract]; omega
                  have hvv : vv.size ≤ 100 := by omega
                  have ev := notEmpty vv (by omega)
                  have hc2i : (100 : Int) < x2.size := by omega
                  clear hvve hvs hc2
                  have HKV : Hid (kk.size = m ∧ vv.size ≤ 100) := ⟨HKK.out.1, hvv⟩
                  have HML : Hid ((Q ++ [(kk, vv)]).length = k + 1) := by show _ = _; rw [List.length_append, ← HO.out.1]; rfl
                  have HKS : Hid (∀ q ∈ Q ++ [(kk, vv)], q.1.size ≤ 1000000) := fun q hq => by
                    rcases List.mem_append.1 hq with hq | hq
                    · have h1 := HO.out.2.2.2.may.len q hq
                      have h2 : (kb q).length = q.1.size := rfl
                      have := HO.out.2.2.2.most
                      omega
                    · rw [List.mem_singleton.1 hq]
                      have := HKK.out.1
                      show kk.size ≤ _
                      omega
                  have hB34 : Below w3.heap.size w3 ((w3.alloc (.cells #[.string kk, .string vv] 33)).alloc (.cells #[.string kk, .string vv] 33)) := ((Below.refl _ _).alloc (Nat.le_refl _) _).alloc (by rw [World.size_alloc]; omega) _
                  have HAP : Hid (OwnPairs ((w3.alloc (.cells #[.string kk, .string vv] 33)).alloc (.cells #[.string kk, .string vv] 33)) w.heap.size (.slice p' k c') Q ∧ PairAt ((w3.alloc (.cells #[.string kk, .string vv] 33)).alloc (.cells #[.string kk, .string vv] 33)) (w3.heap.size + 1) 0 (kk, vv) ∧ w.heap.size ≤ ((w3.alloc (.cells #[.string kk, .string vv] 33)).alloc (.cells #[.string kk, .string vv] 33)).heap.size) := by
                    refine ⟨HO3.out.below0 hB34, ?_, by have := hB34.size; have := HB3.out.size; omega⟩
                    have := pair_new (w3.alloc (.cells #[.string kk, .string vv] 33)) kk vv
                    rwa [World.size_alloc] at this
                  have HBP : Hid (Below w.heap.size w (w3.alloc (.cells #[.string kk, .string vv] 33)) ∧ True) := ⟨HB3.out.alloc HB3.out.size _, trivial⟩
                  have HNB : Hid (some w3.heap.size ≠ (Value.slice p' k c').ownBlock) := fun e => by
                    have := HO3.out.lt w3.heap.size e.symm
                    omega
                  clear hB34
                  go_wp2_with (first
                    | (at_builtin
                       refine wpList_append_one (base := w.heap.size) (K := Q) (p := (kk, vv)) (g := w3.heap.size + 1) rfl _ _ rfl rfl rfl HAP.out.1 HAP.out.2.1 (by have := HO.out.2.1; have := HO.out.1; omega) HAP.out.2.2 ?_
                       intro v4 w4 hO4 hK4 hg4
                       obtain ⟨p4, c4, hv4⟩ := hO4.at.shape
                       rw [HML.out] at hv4
                       subst hv4)
                    | fail)
                  have HB4 : Hid (Below w.heap.size w w4) := below_grownT (HBP.out.1.alloc HBP.out.1.size _) hg4 fun q hq => (HAP.out.1.lt q hq).1
                  have hpb4 : K.Holds w4 w3.heap.size 33 #[.string kk, .string vv] := (hg4.block _ (by rw [World.size_alloc, World.size_alloc]; omega) (fun e => HNB.out e)).trans ((K.Holds.new w3 _ _).alloc _)
                  have hmay := qmay_any _ (Q ++ [(kk, vv)]) w4 hO4.at (by rw [List.length_append]; have := HO.out.2.1; have := HO.out.1; show Q.length + 1 ≤ _; omega) (fun q hq => HKS.out q hq)
                  have HK4 : Hid (OwnPairs w4 w.heap.size (.slice p' k c') Q) := hK4
                  clear hg4 hK4
                  refine hmay.mono ?_
                  rintro e w5 ⟨r, rfl, hr, hB5⟩
                  have HB5 : Hid (Below w.heap.size w w5) := HB4.out.trans (hB5.mono HB4.out.size)
                  have hpb5 := K.Below.holds hB5 hpb4
                  have cp1 : w5.cell? ⟨w3.heap.size, 0, none⟩ = some (.string kk) := hpb5.cell 0
                  have cp2 : w5.cell? ⟨w3.heap.size, 1, none⟩ = some (.string vv) := hpb5.cell 1
                  have HO5 : Hid (OwnPairs w5 w.heap.size (.slice p' k c') Q) := HK4.out.below0 hB5
                  clear hmay hB5 hpb4 hpb5 hO4 HK4
                  cases r with
                  | true =>
                    have HMY : Hid (Made m (Q ++ [(kk, vv)])) := ⟨may_of_last (hr.1 rfl) HKV.out.1, HO.out.2.2.2.least, HO.out.2.2.2.most, by rw [List.length_append]; have := HO.out.1; show Q.length + 1 ≤ 60; omega, fun q hq => by
                      rcases List.mem_append.1 hq with hq | hq
                      · exact HO.out.2.2.2.vals q hq
                      · rw [List.mem_singleton.1 hq]; exact HKV.out.2⟩
                    have HO6 : Hid (OwnPairs (w5.alloc (.cells #[.string kk, .string vv] 33)) w.heap.size (.slice p' k c') Q ∧ PairAt (w5.alloc (.cells #[.string kk, .string vv] 33)) w5.heap.size 0 (kk, vv) ∧ w.heap.size ≤ (w5.alloc (.cells #[.string kk, .string vv] 33)).heap.size) :=
                      ⟨HO5.out.below0 ((Below.refl _ _).alloc (Nat.le_refl _) _), pair_new w5 kk vv, by rw [World.size_alloc]; have := HB5.out.size; omega⟩
                    clear hr
                    go_wp2_with (first
                      | (at_builtin
                         refine wpList_append_one (base := w.heap.size) (K := Q) (p := (kk, vv)) (g := w5.heap.size) rfl _ _ rfl rfl rfl HO6.out.1 HO6.out.2.1 (by have := HO.out.2.1; have := HO.out.1; omega) HO6.out.2.2 ?_
                         intro v6 w6 hO7 _ hg6
                         obtain ⟨p6, c6, hv6⟩ := hO7.at.shape
                         rw [HML.out] at hv6
                         subst hv6)
                      | fail)
                    have HB6 : Hid (Below w.heap.size w w6) := below_grownT (HB5.out.alloc HB5.out.size _) hg6 fun q hq => (HO6.out.1.lt q hq).1
                    have HO7 : Hid (OwnPairs w6 w.heap.size (.slice p6 (k + 1) c6) (Q ++ [(kk, vv)])) := hO7
                    clear hg6 hO7
                    go_roundw
                    case rel => exact ⟨i + 1, p6, k + 1, c6, Q ++ [(kk, vv)], by omega, by simp, rfl, ⟨HML.out.symm, by omega, HO7.out, HMY.out⟩, HB6.out⟩
                    case measure => simp [intOf]; omega
                  | false =>
                    clear hr
                    go_wp2_with fail
                    go_roundw
                    case rel => exact ⟨i + 1, p', k, c', Q, by omega, by simp, rfl, ⟨HO.out.1, HO.out.2.1, HO5.out, HO.out.2.2.2⟩, HB5.out⟩
                    case measure => simp [intOf]; omega
                · have hc2i : ¬ (100 : Int) < x2.size := by omega
                  by_cases he2 : x2.size = 0
                  · have ev := isEmpty0 x2 he2
                    have hvv : (⟨#[118]⟩ : ByteArray).size ≤ 100 := by decide
                    clear he2 hc2
                    have HKV : Hid (kk.size = m ∧ (⟨#[118]⟩ : ByteArray).size ≤ 100) := ⟨HKK.out.1, hvv⟩
                    have HML : Hid ((Q ++ [(kk, (⟨#[118]⟩ : ByteArray))]).length = k + 1) := by show _ = _; rw [List.length_append, ← HO.out.1]; rfl
                    have HKS : Hid (∀ q ∈ Q ++ [(kk, (⟨#[118]⟩ : ByteArray))], q.1.size ≤ 1000000) := fun q hq => by
                      rcases List.mem_append.1 hq with hq | hq
                      · have h1 := HO.out.2.2.2.may.len q hq
                        have h2 : (kb q).length = q.1.size := rfl
                        have := HO.out.2.2.2.most
                        omega
                      · rw [List.mem_singleton.1 hq]
                        have := HKK.out.1
                        show kk.size ≤ _
                        omega
                    have hB34 : Below w3.heap.size w3 ((w3.alloc (.cells #[.string kk, .string (⟨#[118]⟩ : ByteArray)] 33)).alloc (.cells #[.string kk, .string (⟨#[118]⟩ : ByteArray)] 33)) := ((Below.refl _ _).alloc (Nat.le_refl _) _).alloc (by rw [World.size_alloc]; omega) _
                    have HAP : Hid (OwnPairs ((w3.alloc (.cells #[.string kk, .string (⟨#[118]⟩ : ByteArray)] 33)).alloc (.cells #[.string kk, .string (⟨#[118]⟩ : ByteArray)] 33)) w.heap.size (.slice p' k c') Q ∧ PairAt ((w3.alloc (.cells #[.string kk, .string (⟨#[118]⟩ : ByteArray)] 33)).alloc (.cells #[.string kk, .string (⟨#[118]⟩ : ByteArray)] 33)) (w3.heap.size + 1) 0 (kk, (⟨#[118]⟩ : ByteArray)) ∧ w.heap.size ≤ ((w3.alloc (.cells #[.string kk, .string (⟨#[118]⟩ : ByteArray)] 33)).alloc (.cells #[.string kk, .string (⟨#[118]⟩ : ByteArray)] 33)).heap.size) := by
                      refine ⟨HO3.out.below0 hB34, ?_, by have := hB34.size; have := HB3.out.size; omega⟩
                      have := pair_new (w3.alloc (.cells #[.string kk, .string (⟨#[118]⟩ : ByteArray)] 33)) kk (⟨#[118]⟩ : ByteArray)
                      rwa [World.size_alloc] at this
                    have HBP : Hid (Below w.heap.size w (w3.alloc (.cells #[.string kk, .string (⟨#[118]⟩ : ByteArray)] 33)) ∧ True) := ⟨HB3.out.alloc HB3.out.size _, trivial⟩
                    have HNB : Hid (some w3.heap.size ≠ (Value.slice p' k c').ownBlock) := fun e => by
                      have := HO3.out.lt w3.heap.size e.symm
                      omega
                    clear hB34
                    go_wp2_with (first
                      | (at_builtin
                         refine wpList_append_one (base := w.heap.size) (K := Q) (p := (kk, (⟨#[118]⟩ : ByteArray))) (g := w3.heap.size + 1) rfl _ _ rfl rfl rfl HAP.out.1 HAP.out.2.1 (by have := HO.out.2.1; have := HO.out.1; omega) HAP.out.2.2 ?_
                         intro v4 w4 hO4 hK4 hg4
                         obtain ⟨p4, c4, hv4⟩ := hO4.at.shape
                         rw [HML.out] at hv4
                         subst hv4)
                      | fail)
                    have HB4 : Hid (Below w.heap.size w w4) := below_grownT (HBP.out.1.alloc HBP.out.1.size _) hg4 fun q hq => (HAP.out.1.lt q hq).1
                    have hpb4 : K.Holds w4 w3.heap.size 33 #[.string kk, .string (⟨#[118]⟩ : ByteArray)] := (hg4.block _ (by rw [World.size_alloc, World.size_alloc]; omega) (fun e => HNB.out e)).trans ((K.Holds.new w3 _ _).alloc _)
                    have hmay := qmay_any _ (Q ++ [(kk, (⟨#[118]⟩ : ByteArray))]) w4 hO4.at (by rw [List.length_append]; have := HO.out.2.1; have := HO.out.1; show Q.length + 1 ≤ _; omega) (fun q hq => HKS.out q hq)
                    have HK4 : Hid (OwnPairs w4 w.heap.size (.slice p' k c') Q) := hK4
                    clear hg4 hK4
                    refine hmay.mono ?_
                    rintro e w5 ⟨r, rfl, hr, hB5⟩
                    have HB5 : Hid (Below w.heap.size w w5) := HB4.out.trans (hB5.mono HB4.out.size)
                    have hpb5 := K.Below.holds hB5 hpb4
                    have cp1 : w5.cell? ⟨w3.heap.size, 0, none⟩ = some (.string kk) := hpb5.cell 0
                    have cp2 : w5.cell? ⟨w3.heap.size, 1, none⟩ = some (.string (⟨#[118]⟩ : ByteArray)) := hpb5.cell 1
                    have HO5 : Hid (OwnPairs w5 w.heap.size (.slice p' k c') Q) := HK4.out.below0 hB5
                    clear hmay hB5 hpb4 hpb5 hO4 HK4
                    cases r with
                    | true =>
                      have HMY : Hid (Made m (Q ++ [(kk, (⟨#[118]⟩ : ByteArray))])) := ⟨may_of_last (hr.1 rfl) HKV.out.1, HO.out.2.2.2.least, HO.out.2.2.2.most, by rw [List.length_append]; have := HO.out.1; show Q.length + 1 ≤ 60; omega, fun q hq => by
                        rcases List.mem_append.1 hq with hq | hq
                        · exact HO.out.2.2.2.vals q hq
                        · rw [List.mem_singleton.1 hq]; exact HKV.out.2⟩
                      have HO6 : Hid (OwnPairs (w5.alloc (.cells #[.string kk, .string (⟨#[118]⟩ : ByteArray)] 33)) w.heap.size (.slice p' k c') Q ∧ PairAt (w5.alloc (.cells #[.string kk, .string (⟨#[118]⟩ : ByteArray)] 33)) w5.heap.size 0 (kk, (⟨#[118]⟩ : ByteArray)) ∧ w.heap.size ≤ (w5.alloc (.cells #[.string kk, .string (⟨#[118]⟩ : ByteArray)] 33)).heap.size) :=
                        ⟨HO5.out.below0 ((Below.refl _ _).alloc (Nat.le_refl _) _), pair_new w5 kk (⟨#[118]⟩ : ByteArray), by rw [World.size_alloc]; have := HB5.out.size; omega⟩
                      clear hr
                      go_wp2_with (first
                        | (at_builtin
                           refine wpList_append_one (base := w.heap.size) (K := Q) (p := (kk, (⟨#[118]⟩ : ByteArray))) (g := w5.heap.size) rfl _ _ rfl rfl rfl HO6.out.1 HO6.out.2.1 (by have := HO.out.2.1; have := HO.out.1; omega) HO6.out.2.2 ?_
                           intro v6 w6 hO7 _ hg6
                           obtain ⟨p6, c6, hv6⟩ := hO7.at.shape
                           rw [HML.out] at hv6
                           subst hv6)
                        | fail)
                      have HB6 : Hid (Below w.heap.size w w6) := below_grownT (HB5.out.alloc HB5.out.size _) hg6 fun q hq => (HO6.out.1.lt q hq).1
                      have HO7 : Hid (OwnPairs w6 w.heap.size (.slice p6 (k + 1) c6) (Q ++ [(kk, (⟨#[118]⟩ : ByteArray))])) := hO7
                      clear hg6 hO7
                      go_roundw
                      case rel => exact ⟨i + 1, p6, k + 1, c6, Q ++ [(kk, (⟨#[118]⟩ : ByteArray))], by omega, by simp, rfl, ⟨HML.out.symm, by omega, HO7.out, HMY.out⟩, HB6.out⟩
                      case measure => simp [intOf]; omega
                    | false =>
                      clear hr
                      go_wp2_with fail
                      go_roundw
                      case rel => exact ⟨i + 1, p', k, c', Q, by omega, by simp, rfl, ⟨HO.out.1, HO.out.2.1, HO5.out, HO.out.2.2.2⟩, HB5.out⟩
                      case measure => simp [intOf]; omega
                  · have ev := notEmpty x2 he2
                    have hvv : x2.size ≤ 100 := by omega
                    clear he2 hc2
                    have HKV : Hid (kk.size = m ∧ x2.size ≤ 100) := ⟨HKK.out.1, hvv⟩
                    have HML : Hid ((Q ++ [(kk, x2)]).length = k + 1) := by show _ = _; rw [List.length_append, ← HO.out.1]; rfl
                    have HKS : Hid (∀ q ∈ Q ++ [(kk, x2)], q.1.size ≤ 1000000) := fun q hq => by
                      rcases List.mem_append.1 hq with hq | hq
                      · have h1 := HO.out.2.2.2.may.len q hq
                        have h2 : (kb q).length = q.1.size := rfl
                        have := HO.out.2.2.2.most
                        omega
                      · rw [List.mem_singleton.1 hq]
                        have := HKK.out.1
                        show kk.size ≤ _
                        omega
                    have hB34 : Below w3.heap.size w3 ((w3.alloc (.cells #[.string kk, .string x2] 33)).alloc (.cells #[.string kk, .string x2] 33)) := ((Below.refl _ _).alloc (Nat.le_refl _) _).alloc (by rw [World.size_alloc]; omega) _
                    have HAP : Hid (OwnPairs ((w3.alloc (.cells #[.string kk, .string x2] 33)).alloc (.cells #[.string kk, .string x2] 33)) w.heap.size (.slice p' k c') Q ∧ PairAt ((w3.alloc (.cells #[.string kk, .string x2] 33)).alloc (.cells #[.string kk, .string x2] 33)) (w3.heap.size + 1) 0 (kk, x2) ∧ w.heap.size ≤ ((w3.alloc (.cells #[.string kk, .string x2] 33)).alloc (.cells #[.string kk, .string x2] 33)).heap.size) := by
                      refine ⟨HO3.out.below0 hB34, ?_, by have := hB34.size; have := HB3.out.size; omega⟩
                      have := pair_new (w3.alloc (.cells #[.string kk, .string x2] 33)) kk x2
                      rwa [World.size_alloc] at this
                    have HBP : Hid (Below w.heap.size w (w3.alloc (.cells #[.string kk, .string x2] 33)) ∧ True) := ⟨HB3.out.alloc HB3.out.size _, trivial⟩
                    have HNB : Hid (some w3.heap.size ≠ (Value.slice p' k c').ownBlock) := fun e => by
                      have := HO3.out.lt w3.heap.size e.symm
                      omega
                    clear hB34
                    go_wp2_with (first
                      | (at_builtin
                         refine wpList_append_one (base := w.heap.size) (K := Q) (p := (kk, x2)) (g := w3.heap.size + 1) rfl _ _ rfl rfl rfl HAP.out.1 HAP.out.2.1 (by have := HO.out.2.1; have := HO.out.1; omega) HAP.out.2.2 ?_
                         intro v4 w4 hO4 hK4 hg4
                         obtain ⟨p4, c4, hv4⟩ := hO4.at.shape
                         rw [HML.out] at hv4
                         subst hv4)
                      | fail)
                    have HB4 : Hid (Below w.heap.size w w4) := below_grownT (HBP.out.1.alloc HBP.out.1.size _) hg4 fun q hq => (HAP.out.1.lt q hq).1
                    have hpb4 : K.Holds w4 w3.heap.size 33 #[.string kk, .string x2] := (hg4.block _ (by rw [World.size_alloc, World.size_alloc]; omega) (fun e => HNB.out e)).trans ((K.Holds.new w3 _ _).alloc _)
                    have hmay := qmay_any _ (Q ++ [(kk, x2)]) w4 hO4.at (by rw [List.length_append]; have := HO.out.2.1; have := HO.out.1; show Q.length + 1 ≤ _; omega) (fun q hq => HKS.out q hq)
                    have HK4 : Hid (OwnPairs w4 w.heap.size (.slice p' k c') Q) := hK4
                    clear hg4 hK4
                    refine hmay.mono ?_
                    rintro e w5 ⟨r, rfl, hr, hB5⟩
                    have HB5 : Hid (Below w.heap.size w w5) := HB4.out.trans (hB5.mono HB4.out.size)
                    have hpb5 := K.Below.holds hB5 hpb4
                    have cp1 : w5.cell? ⟨w3.heap.size, 0, none⟩ = some (.string kk) := hpb5.cell 0
                    have cp2 : w5.cell? ⟨w3.heap.size, 1, none⟩ = some (.string x2) := hpb5.cell 1
                    have HO5 : Hid (OwnPairs w5 w.heap.size (.slice p' k c') Q) := HK4.out.below0 hB5
                    clear hmay hB5 hpb4 hpb5 hO4 HK4
                    cases r with
                    | true =>
                      have HMY : Hid (Made m (Q ++ [(kk, x2)])) := ⟨may_of_last (hr.1 rfl) HKV.out.1, HO.out.2.2.2.least, HO.out.2.2.2.most, by rw [List.length_append]; have := HO.out.1; show Q.length + 1 ≤ 60; omega, fun q hq => by
                        rcases List.mem_append.1 hq with hq | hq
                        · exact HO.out.2.2.2.vals q hq
                        · rw [List.mem_singleton.1 hq]; exact HKV.out.2⟩
                      have HO6 : Hid (OwnPairs (w5.alloc (.cells #[.string kk, .string x2] 33)) w.heap.size (.slice p' k c') Q ∧ PairAt (w5.alloc (.cells #[.string kk, .string x2] 33)) w5.heap.size 0 (kk, x2) ∧ w.heap.size ≤ (w5.alloc (.cells #[.string kk, .string x2] 33)).heap.size) :=
                        ⟨HO5.out.below0 ((Below.refl _ _).alloc (Nat.le_refl _) _), pair_new w5 kk x2, by rw [World.size_alloc]; have := HB5.out.size; omega⟩
                      clear hr
                      go_wp2_with (first
                        | (at_builtin
                           refine wpList_append_one (base := w.heap.size) (K := Q) (p := (kk, x2)) (g := w5.heap.size) rfl _ _ rfl rfl rfl HO6.out.1 HO6.out.2.1 (by have := HO.out.2.1; have := HO.out.1; omega) HO6.out.2.2 ?_
                           intro v6 w6 hO7 _ hg6
                           obtain ⟨p6, c6, hv6⟩ := hO7.at.shape
                           rw [HML.out] at hv6
                           subst hv6)
                        | fail)
                      have HB6 : Hid (Below w.heap.size w w6) := below_grownT (HB5.out.alloc HB5.out.size _) hg6 fun q hq => (HO6.out.1.lt q hq).1
                      have HO7 : Hid (OwnPairs w6 w.heap.size (.slice p6 (k + 1) c6) (Q ++ [(kk, x2)])) := hO7
                      clear hg6 hO7
                      go_roundw
                      case rel => exact ⟨i + 1, p6, k + 1, c6, Q ++ [(kk, x2)], by omega, by simp, rfl, ⟨HML.out.symm, by omega, HO7.out, HMY.out⟩, HB6.out⟩
                      case measure => simp [intOf]; omega
                    | false =>
                      clear hr
                      go_wp2_with fail
                      go_roundw
                      case rel => exact ⟨i + 1, p', k, c', Q, by omega, by simp, rfl, ⟨HO.out.1, HO.out.2.1, HO5.out, HO.out.2.2.2⟩, HB5.out⟩
                      case measure => simp [intOf]; omega
          · have hc1i : ¬ (32 : Int) < x1.size := by omega
            have hys : x1.size ≤ 32 := by omega
            clear hc1
            go_wp2_with fail
            refine (refOf_any x1 _ (by omega)).mono ?_
            rintro e w3 ⟨rfl, hB3⟩
            have hh0s := hal_size x1
            have hh0r := right_hal x1.data.toList
            obtain ⟨h0, hh0⟩ : ∃ h0 : ByteArray, (⟨(hal x1.data.toList).toArray⟩ : ByteArray) = h0 := ⟨_, rfl⟩
            have hh0r' : rightL h0.data.toList = true := by rw [← hh0]; exact hh0r
            rw [hh0] at hh0s ⊢
            have HB3 : Hid (Below w.heap.size w w3) := HB.out.trans (hB3.mono HB.out.size)
            have HO3 : Hid (OwnPairs w3 w.heap.size (.slice p' k c') Q) := HO.out.2.2.1.below0 hB3
            have q23 : w3.cell? ⟨b, o + i * 2 + 1, none⟩ = some (.string x2) := by
              rw [hB3.cell (p := ⟨b, o + i * 2 + 1, none⟩) (World.block_lt_of_cell? wr _ q2)]; exact q2
            have HH0 : Hid (h0.size ≤ 64 ∧ rightL h0.data.toList = true) := ⟨by omega, hh0r'⟩
            clear hB3 hh0s hh0r hh0 hh0r' q1 q2
            go_wp2_with fail
            go_loopw [8] (fun s w2 => ∃ h : ByteArray, s = .string h ∧ w3 = w2 ∧ Hid (h.size ≤ 64 ∧ rightL h.data.toList = true)) (fun s _ => m - strLen s)
            case atStart => exact ⟨h0, rfl, rfl, HH0.out⟩
            case round =>
              obtain ⟨h, rfl, rfl, HH⟩ := hrel
              by_cases hpad : h.size < m
              · have hpi : (h.size : Int) < m := by omega
                have hps : (h.size : Int) + 1 ≤ 9223372036854775807 := by omega
                have HH2 : Hid ((h ++ (⟨#[0]⟩ : ByteArray)).size = h.size + 1 ∧ rightL (h ++ (⟨#[0]⟩ : ByteArray)).data.toList = true) := by
                  refine ⟨by rw [ByteArray.size_append]; rfl, ?_⟩
                  rw [strcat]
                  show rightL (h.data.toList ++ [0]) = true
                  unfold rightL
                  rw [List.all_append]
                  have := HH.out.2
                  unfold rightL at this
                  rw [this]; rfl
                go_wp2_with fail
                go_roundw
                case rel => exact ⟨_, rfl, trivial, by rw [HH2.out.1]; omega, HH2.out.2⟩
                case measure =>
                  show m - (h ++ (⟨#[0]⟩ : ByteArray)).size < m - h.size
                  rw [HH2.out.1]; omega
              · have hpi : ¬ (h.size : Int) < m := by omega
                obtain ⟨kk, hkke⟩ : ∃ kk, h.extract 0 m = kk := ⟨_, rfl⟩
                have SK : ∀ W : World, (Instr.sliceAt 9 (.string h) none (some (.int .i64 (m : Int))) none).run Tryd.prog W = .ok (.string kk) W := fun W => by rw [← hkke]; exact slice_cut h m (by omega) W
                have HKK : Hid (kk.size = m ∧ True) := ⟨by rw [← hkke, ByteArray.size_extract]; omega, trivial⟩
                clear hkke hpad
                by_cases hc2 : 100 < x2.size
                · obtain ⟨vv, hvve⟩ : ∃ vv, x2.extract 0 100 = vv := ⟨_, rfl⟩
                  have hcut2 : ∀ W : World, (Instr.sliceAt 9 (.string x2) none (some (.int .i64 100)) none).run Tryd.prog W = .ok (.string vv) W := fun W => by rw [← hvve]; exact slice_cut x2 100 (by omega) W
                  have hvs : vv.size = 100 := by rw [← hvve, ByteArray.size_extract]; omega
                  have hvv : vv.size ≤ 100 := by omega
                  have ev := notEmpty vv (by omega)
                  have hc2i : (100 : Int) < x2.size := by omega
                  clear hvve hvs hc2
                  have HKV : Hid (kk.size = m ∧ vv.size ≤ 100) := ⟨HKK.out.1, hvv⟩
                  have HML : Hid ((Q ++ [(kk, vv)]).length = k + 1) := by show _ = _; rw [List.length_append, ← HO.out.1]; rfl
                  have HKS : Hid (∀ q ∈ Q ++ [(kk, vv)], q.1.size ≤ 1000000) := fun q hq => by
                    rcases List.mem_append.1 hq with hq | hq
                    · have h1 := HO.out.2.2.2.may.len q hq
                      have h2 : (kb q).length = q.1.size := rfl
                      have := HO.out.2.2.2.most
                      omega
                    · rw [List.mem_singleton.1 hq]
                      have := HKK.out.1
                      show kk.size ≤ _
                      omega
                  have hB34 : Below w3.heap.size w3 ((w3.alloc (.cells #[.string kk, .string vv] 33)).alloc (.cells #[.string kk, .string vv] 33)) := ((Below.refl _ _).alloc (Nat.le_refl _) _).alloc (by rw [World.size_alloc]; omega) _
                  have HAP : Hid (OwnPairs ((w3.alloc (.cells #[.string kk, .string vv] 33)).alloc (.cells #[.string kk, .string vv] 33)) w.heap.size (.slice p' k c') Q ∧ PairAt ((w3.alloc (.cells #[.string kk, .string vv] 33)).alloc (.cells #[.string kk, .string vv] 33)) (w3.heap.size + 1) 0 (kk, vv) ∧ w.heap.size ≤ ((w3.alloc (.cells #[.string kk, .string vv] 33)).alloc (.cells #[.string kk, .string vv] 33)).heap.size) := by
                    refine ⟨HO3.out.below0 hB34, ?_, by have := hB34.size; have := HB3.out.size; omega⟩
                    have := pair_new (w3.alloc (.cells #[.string kk, .string vv] 33)) kk vv
                    rwa [World.size_alloc] at this
                  have HBP : Hid (Below w.heap.size w (w3.alloc (.cells #[.string kk, .string vv] 33)) ∧ True) := ⟨HB3.out.alloc HB3.out.size _, trivial⟩
                  have HNB : Hid (some w3.heap.size ≠ (Value.slice p' k c').ownBlock) := fun e => by
                    have := HO3.out.lt w3.heap.size e.symm
                    omega
                  clear hB34
                  go_wp2_with (first
                    | (at_builtin
                       refine wpList_append_one (base := w.heap.size) (K := Q) (p := (kk, vv)) (g := w3.heap.size + 1) rfl _ _ rfl rfl rfl HAP.out.1 HAP.out.2.1 (by have := HO.out.2.1; have := HO.out.1; omega) HAP.out.2.2 ?_
                       intro v4 w4 hO4 hK4 hg4
                       obtain ⟨p4, c4, hv4⟩ := hO4.at.shape
                       rw [HML.out] at hv4
                       subst hv4)
                    | fail)
                  have HB4 : Hid (Below w.heap.size w w4) := below_grownT (HBP.out.1.alloc HBP.out.1.size _) hg4 fun q hq => (HAP.out.1.lt q hq).1
                  have hpb4 : K.Holds w4 w3.heap.size 33 #[.string kk, .string vv] := (hg4.block _ (by rw [World.size_alloc, World.size_alloc]; omega) (fun e => HNB.out e)).trans ((K.Holds.new w3 _ _).alloc _)
                  have hmay := qmay_any _ (Q ++ [(kk, vv)]) w4 hO4.at (by rw [List.length_append]; have := HO.out.2.1; have := HO.out.1; show Q.length + 1 ≤ _; omega) (fun q hq => HKS.out q hq)
                  have HK4 : Hid (OwnPairs w4 w.heap.size (.slice p' k c') Q) := hK4
                  clear hg4 hK4
                  refine hmay.mono ?_
                  rintro e w5 ⟨r, rfl, hr, hB5⟩
                  have HB5 : Hid (Below w.heap.size w w5) := HB4.out.trans (hB5.mono HB4.out.size)
                  have hpb5 := K.Below.holds hB5 hpb4
                  have cp1 : w5.cell? ⟨w3.heap.size, 0, none⟩ = some (.string kk) := hpb5.cell 0
                  have cp2 : w5.cell? ⟨w3.heap.size, 1, none⟩ = some (.string vv) := hpb5.cell 1
                  have HO5 : Hid (OwnPairs w5 w.heap.size (.slice p' k c') Q) := HK4.out.below0 hB5
                  clear hmay hB5 hpb4 hpb5 hO4 HK4
                  cases r with
                  | true =>
                    have HMY : Hid (Made m (Q ++ [(kk, vv)])) := ⟨may_of_last (hr.1 rfl) HKV.out.1, HO.out.2.2.2.least, HO.out.2.2.2.most, by rw [List.length_append]; have := HO.out.1; show Q.length + 1 ≤ 60; omega, fun q hq => by
                      rcases List.mem_append.1 hq with hq | hq
                      · exact HO.out.2.2.2.vals q hq
                      · rw [List.mem_singleton.1 hq]; exact HKV.out.2⟩
                    have HO6 : Hid (OwnPairs (w5.alloc (.cells #[.string kk, .string vv] 33)) w.heap.size (.slice p' k c') Q ∧ PairAt (w5.alloc (.cells #[.string kk, .string vv] 33)) w5.heap.size 0 (kk, vv) ∧ w.heap.size ≤ (w5.alloc (.cells #[.string kk, .string vv] 33)).heap.size) :=
                      ⟨HO5.out.below0 ((Below.refl _ _).alloc (Nat.le_refl _) _), pair_new w5 kk vv, by rw [World.size_alloc]; have := HB5.out.size; omega⟩
                    clear hr
                    go_wp2_with (first
                      | (at_builtin
                         refine wpList_append_one (base := w.heap.size) (K := Q) (p := (kk, vv)) (g := w5.heap.size) rfl _ _ rfl rfl rfl HO6.out.1 HO6.out.2.1 (by have := HO.out.2.1; have := HO.out.1; omega) HO6.out.2.2 ?_
                         intro v6 w6 hO7 _ hg6
                         obtain ⟨p6, c6, hv6⟩ := hO7.at.shape
                         rw [HML.out] at hv6
                         subst hv6)
                      | fail)
                    have HB6 : Hid (Below w.heap.size w w6) := below_grownT (HB5.out.alloc HB5.out.size _) hg6 fun q hq => (HO6.out.1.lt q hq).1
                    have HO7 : Hid (OwnPairs w6 w.heap.size (.slice p6 (k + 1) c6) (Q ++ [(kk, vv)])) := hO7
                    clear hg6 hO7
                    go_roundw
                    case rel => exact ⟨i + 1, p6, k + 1, c6, Q ++ [(kk, vv)], by omega, by simp, rfl, ⟨HML.out.symm, by omega, HO7.out, HMY.out⟩, HB6.out⟩
                    case measure => simp [intOf]; omega
                  | false =>
                    clear hr
                    go_wp2_with fail
                    go_roundw
                    case rel => exact ⟨i + 1, p', k, c', Q, by omega, by simp, rfl, ⟨HO.out.1, HO.out.2.1, HO5.out, HO.out.2.2.2⟩, HB5.out⟩
                    case measure => simp [intOf]; omega
                · have hc2i : ¬ (100 : Int) < x2.size := by omega
                  by_cases he2 : x2.size = 0
                  · have ev := isEmpty0 x2 he2
                    have hvv : (⟨#[118]⟩ : ByteArray).size ≤ 100 := by decide
                    clear he2 hc2
                    have HKV : Hid (kk.size = m ∧ (⟨#[118]⟩ : ByteArray).size ≤ 100) := ⟨HKK.out.1, hvv⟩
                    have HML : Hid ((Q ++ [(kk, (⟨#[118]⟩ : ByteArray))]).length = k + 1) := by show _ = _; rw [List.length_append, ← HO.out.1]; rfl
                    have HKS : Hid (∀ q ∈ Q ++ [(kk, (⟨#[118]⟩ : ByteArray))], q.1.size ≤ 1000000) := fun q hq => by
                      rcases List.mem_append.1 hq with hq | hq
                      · have h1 := HO.out.2.2.2.may.len q hq
                        have h2 : (kb q).length = q.1.size := rfl
                        have := HO.out.2.2.2.most
                        omega
                      · rw [List.mem_singleton.1 hq]
                        have := HKK.out.1
                        show kk.size ≤ _
                        omega
                    have hB34 : Below w3.heap.size w3 ((w3.alloc (.cells #[.string kk, .string (⟨#[118]⟩ : ByteArray)] 33)).alloc (.cells #[.string kk, .string (⟨#[118]⟩ : ByteArray)] 33)) := ((Below.refl _ _).alloc (Nat.le_refl _) _).alloc (by rw [World.size_alloc]; omega) _
                    have HAP : Hid (OwnPairs ((w3.alloc (.cells #[.string kk, .string (⟨#[118]⟩ : ByteArray)] 33)).alloc (.cells #[.string kk, .string (⟨#[118]⟩ : ByteArray)] 33)) w.heap.size (.slice p' k c') Q ∧ PairAt ((w3.alloc (.cells #[.string kk, .string (⟨#[118]⟩ : ByteArray)] 33)).alloc (.cells #[.string kk, .string (⟨#[118]⟩ : ByteArray)] 33)) (w3.heap.size + 1) 0 (kk, (⟨#[118]⟩ : ByteArray)) ∧ w.heap.size ≤ ((w3.alloc (.cells #[.string kk, .string (⟨#[118]⟩ : ByteArray)] 33)).alloc (.cells #[.string kk, .string (⟨#[118]⟩ : ByteArray)] 33)).heap.size) := by
                      refine ⟨HO3.out.below0 hB34, ?_, by have := hB34.size; have := HB3.out.size; omega⟩
                      have := pair_new (w3.alloc (.cells #[.string kk, .string (⟨#[118]⟩ : ByteArray)] 33)) kk (⟨#[118]⟩ : ByteArray)
                      rwa [World.size_alloc] at this
                    have HBP : Hid (Below w.heap.size w (w3.alloc (.cells #[.string kk, .string (⟨#[118]⟩ : ByteArray)] 33)) ∧ True) := ⟨HB3.out.alloc HB3.out.size _, trivial⟩
                    have HNB : Hid (some w3.heap.size ≠ (Value.slice p' k c').ownBlock) := fun e => by
                      have := HO3.out.lt w3.heap.size e.symm
                      omega
                    clear hB34
                    go_wp2_with (first
                      | (at_builtin
                         refine wpList_append_one (base := w.heap.size) (K := Q) (p := (kk, (⟨#[118]⟩ : ByteArray))) (g := w3.heap.size + 1) rfl _ _ rfl rfl rfl HAP.out.1 HAP.out.2.1 (by have := HO.out.2.1; have := HO.out.1; omega) HAP.out.2.2 ?_
                         intro v4 w4 hO4 hK4 hg4
                         obtain ⟨p4, c4, hv4⟩ := hO4.at.shape
                         rw [HML.out] at hv4
                         subst hv4)
                      | fail)
                    have HB4 : Hid (Below w.heap.size w w4) := below_grownT (HBP.out.1.alloc HBP.out.1.size _) hg4 fun q hq => (HAP.out.1.lt q hq).1
                    have hpb4 : K.Holds w4 w3.heap.size 33 #[.string kk, .string (⟨#[118]⟩ : ByteArray)] := (hg4.block _ (by rw [World.size_alloc, World.size_alloc]; omega) (fun e => HNB.out e)).trans ((K.Holds.new w3 _ _).alloc _)
                    have hmay := qmay_any _ (Q ++ [(kk, (⟨#[118]⟩ : ByteArray))]) w4 hO4.at (by rw [List.length_append]; have := HO.out.2.1; have := HO.out.1; show Q.length + 1 ≤ _; omega) (fun q hq => HKS.out q hq)
                    have HK4 : Hid (OwnPairs w4 w.heap.size (.slice p' k c') Q) := hK4
                    clear hg4 hK4
                    refine hmay.mono ?_
                    rintro e w5 ⟨r, rfl, hr, hB5⟩
                    have HB5 : Hid (Below w.heap.size w w5) := HB4.out.trans (hB5.mono HB4.out.size)
                    have hpb5 := K.Below.holds hB5 hpb4
                    have cp1 : w5.cell? ⟨w3.heap.size, 0, none⟩ = some (.string kk) := hpb5.cell 0
                    have cp2 : w5.cell? ⟨w3.heap.size, 1, none⟩ = some (.string (⟨#[118]⟩ : ByteArray)) := hpb5.cell 1
                    have HO5 : Hid (OwnPairs w5 w.heap.size (.slice p' k c') Q) := HK4.out.below0 hB5
                    clear hmay hB5 hpb4 hpb5 hO4 HK4
                    cases r with
                    | true =>
                      have HMY : Hid (Made m (Q ++ [(kk, (⟨#[118]⟩ : ByteArray))])) := ⟨may_of_last (hr.1 rfl) HKV.out.1, HO.out.2.2.2.least, HO.out.2.2.2.most, by rw [List.length_append]; have := HO.out.1; show Q.length + 1 ≤ 60; omega, fun q hq => by
                        rcases List.mem_append.1 hq with hq | hq
                        · exact HO.out.2.2.2.vals q hq
                        · rw [List.mem_singleton.1 hq]; exact HKV.out.2⟩
                      have HO6 : Hid (OwnPairs (w5.alloc (.cells #[.string kk, .string (⟨#[118]⟩ : ByteArray)] 33)) w.heap.size (.slice p' k c') Q ∧ PairAt (w5.alloc (.cells #[.string kk, .string (⟨#[118]⟩ : ByteArray)] 33)) w5.heap.size 0 (kk, (⟨#[118]⟩ : ByteArray)) ∧ w.heap.size ≤ (w5.alloc (.cells #[.string kk, .string (⟨#[118]⟩ : ByteArray)] 33)).heap.size) :=
                        ⟨HO5.out.below0 ((Below.refl _ _).alloc (Nat.le_refl _) _), pair_new w5 kk (⟨#[118]⟩ : ByteArray), by rw [World.size_alloc]; have := HB5.out.size; omega⟩
                      clear hr
                      go_wp2_with (first
                        | (at_builtin
                           refine wpList_append_one (base := w.heap.size) (K := Q) (p := (kk, (⟨#[118]⟩ : ByteArray))) (g := w5.heap.size) rfl _ _ rfl rfl rfl HO6.out.1 HO6.out.2.1 (by have := HO.out.2.1; have := HO.out.1; omega) HO6.out.2.2 ?_
                           intro v6 w6 hO7 _ hg6
                           obtain ⟨p6, c6, hv6⟩ := hO7.at.shape
                           rw [HML.out] at hv6
                           subst hv6)
                        | fail)
                      have HB6 : Hid (Below w.heap.size w w6) := below_grownT (HB5.out.alloc HB5.out.size _) hg6 fun q hq => (HO6.out.1.lt q hq).1
                      have HO7 : Hid (OwnPairs w6 w.heap.size (.slice p6 (k + 1) c6) (Q ++ [(kk, (⟨#[118]⟩ : ByteArray))])) := hO7
                      clear hg6 hO7
                      go_roundw
                      case rel => exact ⟨i + 1, p6, k + 1, c6, Q ++ [(kk, (⟨#[118]⟩ : ByteArray))], by omega, by simp, rfl, ⟨HML.out.symm, by omega, HO7.out, HMY.out⟩, HB6.out⟩
                      case measure => simp [intOf]; omega
                    | false =>
                      clear hr
                      go_wp2_with fail
                      go_roundw
                      case rel => exact ⟨i + 1, p', k, c', Q, by omega, by simp, rfl, ⟨HO.out.1, HO.out.2.1, HO5.out, HO.out.2.2.2⟩, HB5.out⟩
                      case measure => simp [intOf]; omega
                  · have ev := notEmpty x2 he2
                    have hvv : x2.size ≤ 100 := by omega
                    clear he2 hc2
                    have HKV : Hid (kk.size = m ∧ x2.size ≤ 100) := ⟨HKK.out.1, hvv⟩
                    have HML : Hid ((Q ++ [(kk, x2)]).length = k + 1) := by show _ = _; rw [List.length_append, ← HO.out.1]; rfl
                    have HKS : Hid (∀ q ∈ Q ++ [(kk, x2)], q.1.size ≤ 1000000) := fun q hq => by
                      rcases List.mem_append.1 hq with hq | hq
                      · have h1 := HO.out.2.2.2.may.len q hq
                        have h2 : (kb q).length = q.1.size := rfl
                        have := HO.out.2.2.2.most
                        omega
                      · rw [List.mem_singleton.1 hq]
                        have := HKK.out.1
                        show kk.size ≤ _
                        omega
                    have hB34 : Below w3.heap.size w3 ((w3.alloc (.cells #[.string kk, .string x2] 33)).alloc (.cells #[.string kk, .string x2] 33)) := ((Below.refl _ _).alloc (Nat.le_refl _) _).alloc (by rw [World.size_alloc]; omega) _
                    have HAP : Hid (OwnPairs ((w3.alloc (.cells #[.string kk, .string x2] 33)).alloc (.cells #[.string kk, .string x2] 33)) w.heap.size (.slice p' k c') Q ∧ PairAt ((w3.alloc (.cells #[.string kk, .string x2] 33)).alloc (.cells #[.string kk, .string x2] 33)) (w3.heap.size + 1) 0 (kk, x2) ∧ w.heap.size ≤ ((w3.alloc (.cells #[.string kk, .string x2] 33)).alloc (.cells #[.string kk, .string x2] 33)).heap.size) := by
                      refine ⟨HO3.out.below0 hB34, ?_, by have := hB34.size; have := HB3.out.size; omega⟩
                      have := pair_new (w3.alloc (.cells #[.string kk, .string x2] 33)) kk x2
                      rwa [World.size_alloc] at this
                    have HBP : Hid (Below w.heap.size w (w3.alloc (.cells #[.string kk, .string x2] 33)) ∧ True) := ⟨HB3.out.alloc HB3.out.size _, trivial⟩
                    have HNB : Hid (some w3.heap.size ≠ (Value.slice p' k c').ownBlock) := fun e => by
                      have := HO3.out.lt w3.heap.size e.symm
                      omega
                    clear hB34
                    go_wp2_with (first
                      | (at_builtin
                         refine wpList_append_one (base := w.heap.size) (K := Q) (p := (kk, x2)) (g := w3.heap.size + 1) rfl _ _ rfl rfl rfl HAP.out.1 HAP.out.2.1 (by have := HO.out.2.1; have := HO.out.1; omega) HAP.out.2.2 ?_
                         intro v4 w4 hO4 hK4 hg4
                         obtain ⟨p4, c4, hv4⟩ := hO4.at.shape
                         rw [HML.out] at hv4
                         subst hv4)
                      | fail)
                    have HB4 : Hid (Below w.heap.size w w4) := below_grownT (HBP.out.1.alloc HBP.out.1.size _) hg4 fun q hq => (HAP.out.1.lt q hq).1
                    have hpb4 : K.Holds w4 w3.heap.size 33 #[.string kk, .string x2] := (hg4.block _ (by rw [World.size_alloc, World.size_alloc]; omega) (fun e => HNB.out e)).trans ((K.Holds.new w3 _ _).alloc _)
                    have hmay := qmay_any _ (Q ++ [(kk, x2)]) w4 hO4.at (by rw [List.length_append]; have := HO.out.2.1; have := HO.out.1; show Q.length + 1 ≤ _; omega) (fun q hq => HKS.out q hq)
                    have HK4 : Hid (OwnPairs w4 w.heap.size (.slice p' k c') Q) := hK4
                    clear hg4 hK4
                    refine hmay.mono ?_
                    rintro e w5 ⟨r, rfl, hr, hB5⟩
                    have HB5 : Hid (Below w.heap.size w w5) := HB4.out.trans (hB5.mono HB4.out.size)
                    have hpb5 := K.Below.holds hB5 hpb4
                    have cp1 : w5.cell? ⟨w3.heap.size, 0, none⟩ = some (.string kk) := hpb5.cell 0
                    have cp2 : w5.cell? ⟨w3.heap.size, 1, none⟩ = some (.string x2) := hpb5.cell 1
                    have HO5 : Hid (OwnPairs w5 w.heap.size (.slice p' k c') Q) := HK4.out.below0 hB5
                    clear hmay hB5 hpb4 hpb5 hO4 HK4
                    cases r with
                    | true =>
                      have HMY : Hid (Made m (Q ++ [(kk, x2)])) := ⟨may_of_last (hr.1 rfl) HKV.out.1, HO.out.2.2.2.least, HO.out.2.2.2.most, by rw [List.length_append]; have := HO.out.1; show Q.length + 1 ≤ 60; omega, fun q hq => by
                        rcases List.mem_append.1 hq with hq | hq
                        · exact HO.out.2.2.2.vals q hq
                        · rw [List.mem_singleton.1 hq]; exact HKV.out.2⟩
                      have HO6 : Hid (OwnPairs (w5.alloc (.cells #[.string kk, .string x2] 33)) w.heap.size (.slice p' k c') Q ∧ PairAt (w5.alloc (.cells #[.string kk, .string x2] 33)) w5.heap.size 0 (kk, x2) ∧ w.heap.size ≤ (w5.alloc (.cells #[.string kk, .string x2] 33)).heap.size) :=
                        ⟨HO5.out.below0 ((Below.refl _ _).alloc (Nat.le_refl _) _), pair_new w5 kk x2, by rw [World.size_alloc]; have := HB5.out.size; omega⟩
                      clear hr
                      go_wp2_with (first
                        | (at_builtin
                           refine wpList_append_one (base := w.heap.size) (K := Q) (p := (kk, x2)) (g := w5.heap.size) rfl _ _ rfl rfl rfl HO6.out.1 HO6.out.2.1 (by have := HO.out.2.1; have := HO.out.1; omega) HO6.out.2.2 ?_
                           intro v6 w6 hO7 _ hg6
                           obtain ⟨p6, c6, hv6⟩ := hO7.at.shape
                           rw [HML.out] at hv6
                           subst hv6)
                        | fail)
                      have HB6 : Hid (Below w.heap.size w w6) := below_grownT (HB5.out.alloc HB5.out.size _) hg6 fun q hq => (HO6.out.1.lt q hq).1
                      have HO7 : Hid (OwnPairs w6 w.heap.size (.slice p6 (k + 1) c6) (Q ++ [(kk, x2)])) := hO7
                      clear hg6 hO7
                      go_roundw
                      case rel => exact ⟨i + 1, p6, k + 1, c6, Q ++ [(kk, x2)], by omega, by simp, rfl, ⟨HML.out.symm, by omega, HO7.out, HMY.out⟩, HB6.out⟩
                      case measure => simp [intOf]; omega
                    | false =>
                      clear hr
                      go_wp2_with fail
                      go_roundw
                      case rel => exact ⟨i + 1, p', k, c', Q, by omega, by simp, rfl, ⟨HO.out.1, HO.out.2.1, HO5.out, HO.out.2.2.2⟩, HB5.out⟩
                      case measure => simp [intOf]; omega
        · have hki : ¬ (k : Int) < 60 := by omega
          go_wp2_with fail
          go_ret
          exact ⟨_, Q, m, rfl, HO.out.2.2.1, HO.out.2.2.2, HB.out⟩
      · have hlti : ¬ (i : Int) < N := by omega
        go_wp2_with fail
        go_ret
        exact ⟨_, Q, m, rfl, HO.out.2.2.1, HO.out.2.2.2, HB.out⟩
end Go.Proofs.YtjdhdeffiigpbaaDoor
