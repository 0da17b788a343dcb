/-
  What the document's May tells.
-/
import Derived.Test.YtjdhdeffiigpbaaDoorTNodeW
import Derived.Test.YtjdhdeffiigpbaaDoorRefA
namespace Go.Proofs.YtjdhdeffiigpbaaDoor
open Go Go.RowKit Go.BigFrame Nb

def okM (L : List Pr) (i : Nat) : Prop := ∀ x, L[i]? = some x → rightL (kb x) = true ∧ x.2.size ≠ 0 ∧ (∀ f, L[0]? = some f → x.1.size = f.1.size) ∧ ∀ k y, k < i → L[k]? = some y → y.1 ≠ x.1
theorem kb_ne {x y : Pr} : kb x ≠ kb y ↔ x.1 ≠ y.1 := by
  unfold kb
  constructor
  · exact fun h e => h (by rw [e])
  · intro h e
    exact h (ByteArray.ext (Array.toList_inj.1 e))
theorem may_of_okM {L : List Pr} (h : ∀ i, okM L i) : mayL L := by
  refine ⟨(L.head?.map fun p => p.1.size).getD 0, ?_, ?_, ?_, ?_⟩
  · intro p hp
    obtain ⟨i, hi, rfl⟩ := List.mem_iff_getElem.1 hp
    have h0 : L[0]? = some L[0] := List.getElem?_eq_getElem (by omega)
    have := (h i _ (List.getElem?_eq_getElem hi)).2.2.1 _ h0
    rw [List.head?_eq_getElem?, h0]
    exact this
  · intro p hp
    obtain ⟨i, hi, rfl⟩ := List.mem_iff_getElem.1 hp
    exact (h i _ (List.getElem?_eq_getElem hi)).1
  · intro p hp
    obtain ⟨i, hi, rfl⟩ := List.mem_iff_getElem.1 hp
    exact fun e => (h i _ (List.getElem?_eq_getElem hi)).2.1 ((vb_size _).1 e)
  · refine List.pairwise_iff_getElem.2 fun i j hi hj hij => ?_
    exact kb_ne.2 ((h j _ (List.getElem?_eq_getElem hj)).2.2.2 i _ hij (List.getElem?_eq_getElem hi))
theorem okM_of_may {L : List Pr} (h : mayL L) (i : Nat) : okM L i := by
  obtain ⟨m, hm⟩ := h
  intro x hx
  have hxm := List.mem_of_getElem? hx
  refine ⟨hm.nib x hxm, fun e => hm.val x hxm ((vb_size _).2 e), fun f hf => ?_, fun k y hk hy => ?_⟩
  · have h1 := hm.len x hxm
    have h2 := hm.len f (List.mem_of_getElem? hf)
    exact h1.trans h2.symm
  · obtain ⟨h1, rfl⟩ := List.getElem?_eq_some_iff.1 hx
    obtain ⟨h2, rfl⟩ := List.getElem?_eq_some_iff.1 hy
    exact kb_ne.1 (List.pairwise_iff_getElem.1 hm.apart k i h2 h1 hk)
def MayPost (w : World) (L : List Pr) (e : Ending) (w' : World) : Prop := ∃ r, e = .returned (.bool r) ∧ (r = true ↔ mayL L) ∧ Below w.heap.size w w'
set_option maxRecDepth 8000 in
set_option maxHeartbeats 4000000 in
theorem qmay_any (v : Value) (L : List Pr) (w : World) (h : PairsAt w v L) (hl : L.length ≤ 1000000) (hk : ∀ p ∈ L, p.1.size ≤ 1000000) : Calls Tryd.prog 35 #[v] w (MayPost w L) := by
  obtain ⟨pn, cn, rfl⟩ := h.shape
  have HP : Hid (PairsAt w (.slice pn L.length cn) L) := h
  obtain ⟨n, hn⟩ : ∃ n, L.length = n := ⟨_, rfl⟩
  have HN : Hid (L.length = n) := hn
  have HK : Hid (∀ p ∈ L, p.1.size ≤ 1000000) := hk
  rw [hn] at HP hl ⊢
  clear h hn hk
  go_enter Tryd.func35, Tryd.ntmps35
  go_wp2_with fail
  go_loopw [3] (fun z wr => ∃ i : Nat, i ≤ n ∧ z = .int .i64 (i : Nat) ∧ Hid (Below w.heap.size w wr) ∧ Hid (∀ j, j < i → okM L j)) (fun z _ => n - (intOf z).toNat)
  case atStart => exact ⟨0, by omega, rfl, Below.refl _ _, fun j hj => absurd hj (Nat.not_lt_zero _)⟩
  case round =>
    obtain ⟨i, hi, rfl, HB, HOK⟩ := hrel
    by_cases hlt : i < n
    · have hlti : (i : Int) < n := by omega
      have hi00 : (0 : Int) ≤ i := by omega
      have hn0 : (0 : Int) < n := by omega
      obtain ⟨x, hx⟩ : ∃ x, L[i]? = some x := ⟨_, List.getElem?_eq_getElem (by rw [HN.out]; exact hlt)⟩
      obtain ⟨f, hf⟩ : ∃ f, L[0]? = some f := ⟨_, List.getElem?_eq_getElem (by rw [HN.out]; omega)⟩
      obtain ⟨b, o, hp1, hnl, hxa⟩ := HP.out.at hx
      subst hp1
      obtain ⟨b', o', hp2, hnl2, hfa⟩ := HP.out.at hf
      injection hp2 with hp2
      injection hp2 with hb1 hb2 _
      subst hb1 hb2
      obtain ⟨x1, x2⟩ := x
      obtain ⟨f1, f2⟩ := f
      have HX : Hid (L[i]? = some (x1, x2) ∧ L[0]? = some (f1, f2)) := ⟨hx, hf⟩
      have hxs : x1.size ≤ 1000000 := HK.out _ (List.mem_of_getElem? hx)
      have q1 : wr.cell? ⟨b, o + i * 2, none⟩ = some (.string x1) := (hxa.below HB.out).1
      have C1 : wr.drew.cell? ⟨b, o + i * 2, none⟩ = some (.string x1) := q1
      have C2 : wr.drew.cell? ⟨b, o + i * 2 + 1, none⟩ = some (.string x2) := (hxa.below HB.out).2
      have C0 : wr.drew.cell? ⟨b, o, none⟩ = some (.string f1) := by
        have := (hfa.below HB.out).1
        rw [Nat.zero_mul, Nat.add_zero] at this
        exact this
      have hrt := refRight_any x1 wr (by omega)
      have HKX : Hid (rightL x1.data.toList = rightL (kb (x1, x2))) := rfl
      clear hx hf hxa hfa hnl hnl2
      cases hr : rightL x1.data.toList with
      | false =>
        rw [hr] at hrt HKX
        have HNO : Hid (¬ mayL L) := fun hm => by
          have := (okM_of_may hm i _ HX.out.1).1
          rw [← HKX.out] at this
          cases this
        clear hr
        go_wp2_with fail
        refine hrt.mono ?_
        rintro e w1 ⟨rfl, rfl⟩
        go_wp2_with fail
        refine wp_region_all (fun w' => w' = w1.drew) mixedP (by kernel_rfl) rfl ?_
        go_big_quiet_step (fail)
        go_big_quiet_step (exact fun _ => rfl)
        go_big_quiet_step (fail)
        go_big_quiet_step (fail)
        go_big_quiet_step (fail)
        go_big_quiet_step (fail)
        go_big_quiet_step (fail)
        go_big_quiet_step (fail)
        go_big_quiet_step (fail)
        go_big_quiet_step (fail)
        go_big_quiet_step (fail)
        go_big_quiet_step (fail)
        go_big_quiet_step (fail)
        go_big_quiet_step (fail)
        go_big_quiet_step (fail)
        go_big_quiet_step (fail)
        go_big_quiet_step (fail)
        go_big_quiet_step (fail)
        go_big_quiet_step (fail)
        go_big_quiet_step (fail)
        go_big_quiet_step (fail)
        go_big_quiet_step (fail)
        go_big_quiet_step (fail)
        go_big_quiet_step (fail)
        refine wpQuiet_nil ?_
        rintro w6 rfl
        simp only [Exit.then]
        go_at_K
        go_wp2_with fail
        go_ret
        exact ⟨false, rfl, ⟨(fun e => by cases e), fun e => absurd e HNO.out⟩, HB.out.drew⟩
      | true =>
        rw [hr] at hrt HKX
        clear hr
        by_cases hv : x2.size = 0
        · have ev := isEmpty0 x2 hv
          have HNO : Hid (¬ mayL L) := fun hm => (okM_of_may hm i _ HX.out.1).2.1 hv
          clear hv
          go_wp2_with fail
          refine hrt.mono ?_
          rintro e w1 ⟨rfl, rfl⟩
          go_wp2_with fail
          refine wp_region_all (fun w' => w' = w1.drew) mixedP (by kernel_rfl) rfl ?_
          go_big_quiet_step (fail)
          go_big_quiet_step (exact fun _ => rfl)
          go_big_quiet_step (fail)
          go_big_quiet_step (fail)
          go_big_quiet_step (fail)
          refine cq_val rfl (.pointer (some ⟨b, o + i * 2, none⟩)) (fun w5 h5 => by have e := hlti; go_simp) ?_
          go_frame
          refine cq_val rfl (.pointer (some ⟨b, o + i * 2 + 1, none⟩)) (fun w5 h5 => by go_simp) ?_
          go_frame
          refine cq_val rfl (.string x2) (fun w5 h5 => by have q := C2; subst h5; go_simp) ?_
          go_frame
          refine cq_val rfl (.bool true) (fun w5 h5 => by have e := ev; go_simp) ?_
          go_frame
          go_big_quiet_step (fail)
          go_big_quiet_step (fail)
          go_big_quiet_step (fail)
          go_big_quiet_step (fail)
          go_big_quiet_step (fail)
          go_big_quiet_step (fail)
          go_big_quiet_step (fail)
          go_big_quiet_step (fail)
          go_big_quiet_step (fail)
          go_big_quiet_step (fail)
          go_big_quiet_step (fail)
          go_big_quiet_step (fail)
          go_big_quiet_step (fail)
          go_big_quiet_step (fail)
          go_big_quiet_step (fail)
          refine wpQuiet_nil ?_
          rintro w6 rfl
          simp only [Exit.then]
          go_at_K
          go_wp2_with fail
          go_ret
          exact ⟨false, rfl, ⟨(fun e => by cases e), fun e => absurd e HNO.out⟩, HB.out.drew⟩
        · have ev := notEmpty x2 hv
          have HV : Hid (x2.size ≠ 0) := hv
          clear hv
          obtain ⟨nb, hnb0⟩ : ∃ nb, nb = ((x1.size : Int) != (f1.size : Int)) := ⟨_, rfl⟩
          have hnb := hnb0.symm
          have HNB : Hid (nb = ((x1.size : Int) != (f1.size : Int))) := hnb0
          clear hnb0
          go_wp2_with fail
          refine hrt.mono ?_
          rintro e w1 ⟨rfl, rfl⟩
          go_wp2_with fail
          refine wp_region_all (fun w' => w' = w1.drew) mixedP (by kernel_rfl) rfl ?_
          go_big_quiet_step (fail)
          go_big_quiet_step (exact fun _ => rfl)
          go_big_quiet_step (fail)
          go_big_quiet_step (fail)
          go_big_quiet_step (fail)
          refine cq_val rfl (.pointer (some ⟨b, o + i * 2, none⟩)) (fun w5 h5 => by have e := hlti; go_simp) ?_
          go_frame
          refine cq_val rfl (.pointer (some ⟨b, o + i * 2 + 1, none⟩)) (fun w5 h5 => by go_simp) ?_
          go_frame
          refine cq_val rfl (.string x2) (fun w5 h5 => by have q := C2; subst h5; go_simp) ?_
          go_frame
          refine cq_val rfl (.bool false) (fun w5 h5 => by have e := ev; go_simp) ?_
          go_frame
          go_big_quiet_step (fail)
          go_big_quiet_step (fail)
          go_big_quiet_step (fail)
          go_big_quiet_step (fail)
          refine cq_val rfl (.pointer (some ⟨b, o + i * 2, none⟩)) (fun w5 h5 => by have e := hlti; go_simp) ?_
          go_frame
          refine cq_val rfl (.pointer (some ⟨b, o + i * 2, none⟩)) (fun w5 h5 => by go_simp) ?_
          go_frame
          refine cq_val rfl (.string x1) (fun w5 h5 => by have q := C1; subst h5; go_simp) ?_
          go_frame
          refine cq_val rfl (.int .i64 (x1.size : Nat)) (fun w5 h5 => by go_simp) ?_
          go_frame
          go_big_quiet_step (fail)
          refine cq_val rfl (.pointer (some ⟨b, o, none⟩)) (fun w5 h5 => by have e := hn0; go_simp; intro h; omega) ?_
          go_frame
          refine cq_val rfl (.pointer (some ⟨b, o, none⟩)) (fun w5 h5 => by go_simp) ?_
          go_frame
          refine cq_val rfl (.string f1) (fun w5 h5 => by have q := C0; subst h5; go_simp) ?_
          go_frame
          refine cq_val rfl (.int .i64 (f1.size : Nat)) (fun w5 h5 => by go_simp) ?_
          go_frame
          refine cq_val rfl (.bool nb) (fun w5 h5 => by have e := hnb; go_simp) ?_
          go_frame
          go_big_quiet_step (fail)
          refine wpQuiet_nil ?_
          rintro w6 rfl
          simp only [Exit.then]
          go_at_K
          cases nb with
          | true =>
            have HNO : Hid (¬ mayL L) := fun hm => by
              have h1 := (okM_of_may hm i _ HX.out.1).2.2.1 _ HX.out.2
              have h2 : x1.size = f1.size := h1
              have := HNB.out
              rw [h2] at this
              simp at this
            go_wp2_with fail
            go_ret
            exact ⟨false, rfl, ⟨(fun e => by cases e), fun e => absurd e HNO.out⟩, HB.out.drew⟩
          | false =>
            have HSZ : Hid (x1.size = f1.size) := by
              have := HNB.out
              show _ = _
              have h3 : ((x1.size : Int) != (f1.size : Int)) = false := this.symm
              have h4 : (x1.size : Int) = f1.size := by simpa using h3
              omega
            have HBD : Hid (Below w.heap.size w w1.drew) := HB.out.drew
            clear hnb HNB hrt q1 C1 C2 C0 ev
            go_wp2_with fail
            go_loopw [5] (fun zz w2 => ∃ j : Nat, j ≤ i ∧ zz = .int .i64 (j : Nat) ∧ Hid (Below w.heap.size w w2) ∧ Hid (∀ k y, k < j → L[k]? = some y → y.1 ≠ x1)) (fun zz _ => i - (intOf zz).toNat)
            case atStart => exact ⟨0, by omega, rfl, HBD, fun k y hk => absurd hk (Nat.not_lt_zero _)⟩
            case round =>
              obtain ⟨j, hj, rfl, HB2, HNE⟩ := hrel
              rename World => w2
              by_cases hlt2 : j < i
              · have hjn : (j : Int) < n := by omega
                have hji : (j : Int) < i := by omega
                have hj0 : (0 : Int) ≤ j := by omega
                obtain ⟨y, hy⟩ : ∃ y, L[j]? = some y := ⟨_, List.getElem?_eq_getElem (by rw [HN.out]; omega)⟩
                obtain ⟨b', o', hp2, hnl3, hya⟩ := HP.out.at hy
                injection hp2 with hp2
                injection hp2 with hb1 hb2 _
                subst hb1 hb2
                obtain ⟨b', o', hp2, hnl4, hxa⟩ := HP.out.at HX.out.1
                injection hp2 with hp2
                injection hp2 with hb1 hb2 _
                subst hb1 hb2
                obtain ⟨y1, y2⟩ := y
                have C3 : w2.drew.cell? ⟨b, o + j * 2, none⟩ = some (.string y1) := (hya.below HB2.out).1
                have C4 : w2.drew.cell? ⟨b, o + i * 2, none⟩ = some (.string x1) := (hxa.below HB2.out).1
                obtain ⟨nk, hnk0⟩ : ∃ nk, nk = (y1.toList == x1.toList) := ⟨_, rfl⟩
                have hnk := hnk0.symm
                have HNK : Hid (nk = true ↔ y1 = x1) := by
                  show _ ↔ _
                  rw [hnk0, beq_iff_eq, lb, lb]
                  exact ⟨fun e => ByteArray.ext (Array.toList_inj.1 e), fun e => by rw [e]⟩
                have HY : Hid (L[j]? = some (y1, y2)) := hy
                clear hnk0 hy hya hxa hnl3 hnl4
                go_wp2_with fail
                refine wp_region_all (fun w' => w' = w2.drew) mixedP (by kernel_rfl) rfl ?_
                go_big_quiet_step (fail)
                go_big_quiet_step (fail)
                refine cq_val rfl (.pointer (some ⟨b, o + j * 2, none⟩)) (fun w5 h5 => by have e := hjn; go_simp) ?_
                go_frame
                refine cq_val rfl (.pointer (some ⟨b, o + j * 2, none⟩)) (fun w5 h5 => by go_simp) ?_
                go_frame
                refine cq_val rfl (.string y1) (fun w5 h5 => by have q := C3; subst h5; go_simp) ?_
                go_frame
                go_big_quiet_step (fail)
                go_big_quiet_step (fail)
                refine cq_val rfl (.pointer (some ⟨b, o + i * 2, none⟩)) (fun w5 h5 => by have e := hlti; go_simp) ?_
                go_frame
                refine cq_val rfl (.pointer (some ⟨b, o + i * 2, none⟩)) (fun w5 h5 => by go_simp) ?_
                go_frame
                refine cq_val rfl (.string x1) (fun w5 h5 => by have q := C4; subst h5; go_simp) ?_
                go_frame
                refine cq_val rfl (.bool nk) (fun w5 h5 => by have e := hnk; go_simp) ?_
                go_frame
                refine wpQuiet_nil ?_
                rintro w6 rfl
                simp only [Exit.then]
                go_at_K
                cases nk with
                | true =>
                  have HNO : Hid (¬ mayL L) := fun hm => (okM_of_may hm i _ HX.out.1).2.2.2 j _ hlt2 HY.out (HNK.out.1 rfl)
                  go_wp2_with fail
                  go_ret
                  exact ⟨false, rfl, ⟨(fun e => by cases e), fun e => absurd e HNO.out⟩, HB2.out.drew⟩
                | false =>
                  have HNE' : Hid (∀ k y, k < j + 1 → L[k]? = some y → y.1 ≠ x1) := fun k y hk hy => by
                    by_cases e : k = j
                    · subst e
                      rw [HY.out] at hy
                      injection hy with hy
                      subst hy
                      exact fun e => by have := HNK.out.2 e; cases this
                    · exact HNE.out k y (by omega) hy
                  go_wp2_with fail
                  go_roundw
                  case rel => exact ⟨j + 1, by omega, by simp, HB2.out.drew, HNE'⟩
                  case measure => simp [intOf]; omega
              · have hji : ¬ (j : Int) < i := by omega
                have hje : j = i := by omega
                subst hje
                have HOK' : Hid (∀ k, k < j + 1 → okM L k) := fun k hk => by
                  by_cases e : k = j
                  · subst e
                    intro z hz
                    rw [HX.out.1] at hz
                    injection hz with hz
                    subst hz
                    refine ⟨HKX.out.symm, HV.out, fun f hf => ?_, fun k y hk hy => HNE.out k y hk hy⟩
                    rw [HX.out.2] at hf
                    injection hf with hf
                    subst hf
                    exact HSZ.out
                  · exact HOK.out k (by omega)
                go_wp2_with fail
                go_roundw
                case rel => exact ⟨j + 1, by omega, by simp, HB2, HOK'⟩
                case measure => simp [intOf]; omega
    · have hlti : ¬ (i : Int) < n := by omega
      have HYES : Hid (mayL L) := may_of_okM fun j => by
        by_cases hj : j < n
        · exact HOK.out j (by omega)
        · exact fun x hx => by rw [List.getElem?_eq_none (by rw [HN.out]; omega)] at hx; cases hx
      go_wp2_with fail
      go_ret
      exact ⟨true, rfl, ⟨fun _ => HYES.out, fun _ => rfl⟩, HB.out⟩
end Go.Proofs.YtjdhdeffiigpbaaDoor
