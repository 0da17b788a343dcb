/-
  BitsetPlays' walk.
-/
import Derived.Test.YtbenfmhcpipehaaBOpsArg
import Derived.Test.YtbenfmhcpipehaaBUnionW
import Derived.Test.YtbenfmhcpipehaaBCutsW
import Derived.Test.YtbenfmhcpipehaaBRefBytesW
import Derived.Test.YtbenfmhcpipehaaBBytesW
namespace Go.Proofs.Ytbenfmhcpipehaa
open Go Go.RowKit Go.Maps

theorem View.setAt {w : World} {b : Nat} {mo : Option Nat} {M : Nat → Bool} (h : View w (.pointer (some ⟨b, 0, none⟩)) mo M) : SetAt w b mo M := by
  rcases h.ptr with ⟨h1, _⟩ | ⟨b', h1, h2⟩
  · cases h1
  · injection h1 with h1
    injection h1 with h1
    injection h1 with h1 _ _
    subst h1
    exact ⟨h2, h.map⟩
theorem SetAt.other {w w' : World} {b q : Nat} {mo : Option Nat} {M : Nat → Bool} {t : TypeId} {cs : Array Value} (hs : SetAt w b mo M) (k : OnlyS b mo w w') (hc : Holds w q t cs) (ht : t ≠ 70) : Holds w' q t cs := by
  have hlt := hc.lt
  unfold Holds at *
  rw [k.block q hlt ?_ ?_]
  · exact hc
  · rintro rfl
    have := hs.ptr
    unfold Holds at this
    rw [this] at hc
    injection hc with hc
    injection hc with _ hc
    exact ht hc.symm
  · intro e
    have hm := hs.map
    rw [← e] at hm
    obtain ⟨es, clock, hq⟩ := MapAt.obj hm
    rw [hq] at hc
    cases hc
theorem run_not5 (o : Bool) (w : World) : (Op.unary UnOp.not (.bool o)).run Try.prog w = .ok (.bool (!o)) w := rfl
theorem St.shape {w0 w : World} {b : Nat} {mo : Option Nat} {v : Value} {M : Nat → Bool} (s : St w0 w b mo v M) : ∃ p c, v = .slice p (memFrom M 0).length c ∧ IntsAt w (.slice p (memFrom M 0).length c) ((memFrom M 0).map fun x : Nat => (x : Int)) := s.list.intsAt
theorem len_list {w : World} {s : Value} {mo : Option Nat} {M : Nat → Bool} (h : View w s mo M) : Calls Try.prog 17 #[s] w fun e w' => e = .returned (.int .i64 ((memFrom M 0).length : Nat)) ∧ Below w.heap.size w w' := by
  have := len_any h
  rw [card_len] at this
  exact this
theorem cut_list {w : World} {b : Nat} {mo : Option Nat} {M : Nat → Bool} (h : SetAt w b mo M) (fr : Int) (hfr : fr ≤ 9223372036854775807) :
    Calls Try.prog 12 #[.pointer (some ⟨b, 0, none⟩), .int .i64 fr] w fun e w' => e = .returned (.int .i64 (((memFrom M 0).length : Nat) - ((memFrom (cutM M fr.toNat) 0).length : Nat) : Int)) ∧ SetAt w' b mo (cutM M fr.toNat) ∧ OnlyS b mo w w' := by
  have := cut_any h.view fr hfr
  rw [card_len, card_len] at this
  exact this.mono fun e w' ⟨h1, h2, h3⟩ => ⟨h1, h2.setAt, h3.toS b⟩
theorem cut_shorter (M : Nat → Bool) (hM : ∀ n, M n = true → n < 2147483648) (f : Int) : (memFrom (cutM M f.toNat) 0).length ≤ (memFrom M 0).length := by
  rw [← cut_eq hM]; exact List.length_filter_le _ _
theorem bytes_list {M : Nat → Bool} (hM : ∀ n, M n = true → n < 2147483648) {w : World} {p : Option Addr} {n c : Nat} (hv : IntsAt w (.slice p n c) ((memFrom M 0).map fun x : Nat => (x : Int))) (hln : (memFrom M 0).length ≤ 100000) :
    Calls Try.prog 21 #[.slice p n c] w fun e w' => e = .returned (.string ⟨(bytesM M).toArray⟩) ∧ Below w.heap.size w w' := by
  have := qbytes_any hv (memFrom_rises M 0) (fun x hx => hM x ((mem_memFrom hM).1 hx).2) (by omega)
  rw [ofN_mem hM] at this
  exact this

set_option maxRecDepth 100000 in
set_option maxHeartbeats 8000000 in
theorem plays_walk {w : World} {p : Option Addr} {n c : Nat} {L : List (Int × Int × Int)} (hx : OpsAt w p n L) (hnc : n ≤ c) (hc : c ≤ 9223372036854775807) :
    Calls Try.prog 3 #[.slice p n c] w fun e w' => e = .returned (.bool true) ∧ Below w.heap.size w w' := by
  have hnot := run_not5
  have HNL : Hid (n = L.length) := hx.1
  have hni : (n : Int) ≤ 9223372036854775807 := by omega
  go_enter Try.func3, Try.ntmps3
  go_wp2_with fail
  refine (awake_any _).mono ?_
  rintro e wa ⟨rfl, hBa⟩
  go_wp2_with fail
  refine (new_any (v := .slice none 0 0) (l := []) (.inl ⟨rfl, none, 0, rfl⟩) (by simp) (by simp)).mono ?_
  rintro e wb ⟨b0, rfl, mo0, hs0, hb0, hm0, hBb⟩
  have st0 : St w wb b0 mo0 (.slice none 0 0) (ofInts []) := by
    have hz := hBa.size
    refine ⟨hs0, ?_, ⟨by omega, fun m e => by have := hm0 m e; omega⟩, below_new hBa hBb⟩
    have : memFrom (ofInts []) 0 = [] := by
      refine List.eq_nil_iff_forall_not_mem.2 fun y hy => ?_
      have := ((mem_memFrom (fun n h => by rw [ofInts_nil] at h; cases h)).1 hy).2
      rw [ofInts_nil] at this
      cases this
    rw [this]
    exact World.ownsRow_nil _ _ _ _
  have hl0 : (memFrom (ofInts []) 0).length ≤ 4000 := by
    rw [← card_len]
    have : (memFrom (ofInts []) 0) = [] := by
      refine List.eq_nil_iff_forall_not_mem.2 fun y hy => ?_
      have := ((mem_memFrom (fun n h => by rw [ofInts_nil] at h; cases h)).1 hy).2
      rw [ofInts_nil] at this
      cases this
    rw [card_len, this]; simp
  clear hs0 hb0 hm0 hBa hBb
  go_wp2_with fail
  go_loopw [4, 5, 6] (fun sv lv y wr => ∃ (i b : Nat) (mo : Option Nat) (M : Nat → Bool), y = .int .i64 (i : Nat) ∧ i ≤ 40 ∧ i ≤ n ∧ sv = .pointer (some ⟨b, 0, none⟩) ∧ St w wr b mo lv M ∧ (memFrom M 0).length ≤ 4000 + 2 * i) (fun _ _ y _ => 40 - (intOf y).toNat)
  case atStart => exact ⟨0, b0, mo0, ofInts [], rfl, by omega, by omega, rfl, st0, hl0⟩
  case round =>
    clear st0 hl0
    obtain ⟨i, b, mo, M, rfl, hi40, hin, rfl, st, hlen⟩ := hrel
    have hM := st.bound
    obtain ⟨lp, lc, hlv, hiv⟩ := st.shape
    by_cases hi : i < n ∧ i < 40
    · obtain ⟨hi1, hi2⟩ := hi
      have hi1i : (i : Int) < n := by omega
      have hi2i : (i : Int) < 40 := by omega
      obtain ⟨⟨t1, t2, t3⟩, ht⟩ : ∃ t, L[i]? = some t := ⟨_, List.getElem?_eq_getElem (by have := HNL.out; omega)⟩
      obtain ⟨ht1, ht2, ht3⟩ := hx.2.2 _ (List.mem_of_getElem? ht)
      rcases (hx.below st.below).2.1 with h0 | ⟨gb, go, rfl, hcells⟩
      · omega
      obtain ⟨d0, d1, d2⟩ := hcells i _ ht
      dsimp only at d0 d1 d2 ht1 ht2 ht3
      subst hlv
      obtain ⟨g, hg⟩ : ∃ g, wr.heap.size = g := ⟨_, rfl⟩
      obtain ⟨W1, hW1⟩ : ∃ W, wr.alloc (.cells #[.int .i64 t1, .int .i64 t2, .int .i64 t3] 28) = W := ⟨_, rfl⟩
      have hB1 : Below wr.heap.size wr W1 := by rw [← hW1]; exact below_new1 _ _
      have q1 : Holds W1 g 28 #[.int .i64 t1, .int .i64 t2, .int .i64 t3] := by rw [← hW1, ← hg]; exact Holds.new _ _ _
      have s1 := st.next hB1
      have e10 : W1.cell? ⟨g, 0, none⟩ = some (.int .i64 t1) := q1.cell 0
      have e11 : W1.cell? ⟨g, 1, none⟩ = some (.int .i64 t2) := q1.cell 1
      have e12 : W1.cell? ⟨g, 2, none⟩ = some (.int .i64 t3) := q1.cell 2
      have hia := hiv.below hB1
      have hleni : ((memFrom M 0).length : Int) ≤ 5000 := by omega
      obtain ⟨mn, hmn⟩ : ∃ mn : Nat, mn = (t3.tmod 301).natAbs := ⟨_, rfl⟩
      have hmn300 : mn ≤ 300 := by
        have := Int.tmod_lt_of_pos t3 (show (0 : Int) < 301 by decide)
        have := Int.lt_tmod_of_pos t3 (show (0 : Int) < 301 by decide)
        omega
      have hk8a := Int.tmod_lt_of_pos t1 (show (0 : Int) < 8 by decide)
      have hk8b := Int.lt_tmod_of_pos t1 (show (0 : Int) < 8 by decide)
      clear hcells hx
      by_cases hmneg : t3.tmod 301 < 0
      · have hmv : -(t3.tmod 301) = (mn : Int) := by omega
        clear hmn
        by_cases hkneg : t1.tmod 8 < 0
        · obtain ⟨K, hkv⟩ : ∃ K : Nat, t1.tmod 8 + 8 = (K : Int) := ⟨(t1.tmod 8 + 8).toNat, by omega⟩
          have hK8 : K < 8 := by omega
          clear hk8a
          have hK5 : K = 4 ∨ K = 5 ∨ K = 6 ∨ K = 7 ∨ K < 4 := by omega
          rcases hK5 with hk | hk | hk | hk | hk
          · subst hk
            change _ = (4 : Int) at hkv
            as_aux_lemma =>
              have hqc := qcut_any hia (by omega) t2
              rw [cut_eq hM] at hqc
              go_wp2_with fail
              refine hqc.mono ?_
              rintro e w2 ⟨v2, rfl, hv2, hB2⟩
              clear hqc
              obtain ⟨p2, c2', rfl, hi2⟩ := hv2.intsAt
              have s2 := s1.next hB2
              have q2 := below_holds hB2 q1
              have d20 : w2.cell? ⟨g, 0, none⟩ = some (.int .i64 t1) := q2.cell 0
              have d21 : w2.cell? ⟨g, 1, none⟩ = some (.int .i64 t2) := q2.cell 1
              have hct := cut_list s2.set t2 (by omega)
              have hsh := cut_shorter M hM t2
              obtain ⟨n2, hn2⟩ : ∃ n2, (memFrom (cutM M t2.toNat) 0).length = n2 := ⟨_, rfl⟩
              have HN2 : Hid ((memFrom (cutM M t2.toNat) 0).length = n2) := hn2
              rw [hn2] at hct hsh hi2 ⊢
              clear hn2
              obtain ⟨dd, hdd⟩ : ∃ dd : Int, ((memFrom M 0).length : Int) - (n2 : Int) = dd := ⟨_, rfl⟩
              rw [hdd] at hct
              have hd1 : dd ≤ 10000 := by omega
              have hd2 : -10000 ≤ dd := by omega
              go_wp2_with fail
              refine hct.mono ?_
              rintro e w3 ⟨rfl, hs3, ho3⟩
              clear hct
              have s3 : St w w3 b mo (.slice p2 (memFrom (cutM M t2.toNat) 0).length c2') (cutM M t2.toNat) := s2.add hv2.zero hs3 (Newer.refl _ _) ho3
              have hll := len_list s3.set.view
              rw [HN2.out] at hll
              have HN : Hid (n2 ≤ 4000 + 2 * (i + 1)) := by show _ ≤ _; omega
              go_wp2_with fail
              refine hll.mono ?_
              rintro e w4 ⟨rfl, hB4⟩
              clear hll
              have s4 : Hid _ := s3.next hB4
              clear s3 s2
              go_wp2_with fail
              go_roundw
              case rel => exact ⟨i + 1, b, mo, cutM M t2.toNat, by go_num, by omega, by omega, rfl, by rw [← HN2.out]; exact s4.out, by rw [HN2.out]; exact HN.out⟩
              case measure => simp [intOf]; omega
          · subst hk
            change _ = (5 : Int) at hkv
            as_aux_lemma =>
              go_wp2_with fail
              have hnw := new_any (w := W1.alloc (.cells #[.int .i64 t2, .int .i64 t3] 3)) (v := .slice (some ⟨W1.heap.size, 0, none⟩) 2 2) (l := [t2, t3]) (.inr ⟨_, 0, 2, rfl, fun i hi => by
                have hi' : i < 2 := hi
                have h0 := (Holds.new W1 3 #[.int .i64 t2, .int .i64 t3]).cell 0
                have h1 := (Holds.new W1 3 #[.int .i64 t2, .int .i64 t3]).cell 1
                match i, hi' with
                | 0, _ => exact h0
                | 1, _ => exact h1⟩) (by simp; omega) (by simp)
              refine hnw.mono ?_
              rintro e w2 ⟨b2, rfl, mo2, hs2, hb2, hm2, hB2⟩
              clear hnw
              have s2 := (s1.next (below_new1 W1 (.cells #[.int .i64 t2, .int .i64 t3] 3))).next hB2
              have q2 := below_holds hB2 (below_holds (below_new1 W1 (.cells #[.int .i64 t2, .int .i64 t3] 3)) q1)
              have hun := union_any s2.set.view hs2.view
              rw [addM_two] at hun
              go_wp2_with fail
              refine hun.mono ?_
              rintro e w3 ⟨b3, rfl, m3, hs3, hb3, hm3, hB3⟩
              clear hun hs2
              have l3 := s2.list.below0 hB3
              have q3 := below_holds hB3 q2
              have d31 : w3.cell? ⟨g, 1, none⟩ = some (.int .i64 t2) := q3.cell 1
              have hz2 := s2.below.size
              have hb3w : w.heap.size ≤ b3 := by omega
              have hm3w : w.heap.size ≤ m3 := by omega
              have hBw3 := below_new s2.below hB3
              have ha1 := qadd_any l3 hM (by omega) t2
              go_wp2_with fail
              refine ha1.mono ?_
              rintro e w4 ⟨v4, rfl, l4, hB4⟩
              clear ha1 l3
              have q4 := below_holds hB4 q3
              have d42 : w4.cell? ⟨g, 2, none⟩ = some (.int .i64 t3) := q4.cell 2
              have hc1 := card_add M hM t2
              have ha2 := qadd_any l4 (addM_bound hM t2) (by omega) t3
              obtain ⟨p4, c4, rfl, _⟩ := l4.intsAt
              go_wp2_with fail
              refine ha2.mono ?_
              rintro e w5 ⟨v5, rfl, l5, hB5⟩
              clear ha2 l4
              have hc2 := card_add (addM M t2) (addM_bound hM t2) t3
              have s5 : St w w5 b3 (some m3) v5 (addM (addM M t2) t3) := ⟨(hs3.below hB4).below hB5, l5, ⟨hb3w, fun m e => by cases e; exact hm3w⟩, below_new (below_new hBw3 hB4) hB5⟩
              obtain ⟨p5, c5, rfl, _⟩ := s5.shape
              have hll := len_list s5.set.view
              have HN : Hid ((memFrom (addM (addM M t2) t3) 0).length ≤ 4000 + 2 * (i + 1)) := by show _ ≤ _; omega
              generalize hN2 : (memFrom (addM (addM M t2) t3) 0).length = n2 at hll HN ⊢
              have HN2 : Hid ((memFrom (addM (addM M t2) t3) 0).length = n2) := hN2
              rw [hN2] at s5
              clear hN2
              go_wp2_with fail
              refine hll.mono ?_
              rintro e w6 ⟨rfl, hB6⟩
              clear hll
              have s6 : Hid _ := s5.next hB6
              go_wp2_with fail
              go_roundw
              case rel => exact ⟨i + 1, b3, some m3, addM (addM M t2) t3, by go_num, by omega, by omega, rfl, s6.out, by rw [HN2.out]; exact HN.out⟩
              case measure => simp [intOf]; omega
          · subst hk
            change _ = (6 : Int) at hkv
            as_aux_lemma =>
              have hak := asked_any s1.set.view hia (by omega) t2 ht2
              go_wp2_with fail
              refine hak.mono ?_
              rintro e w2 ⟨rfl, hB2⟩
              clear hak
              have s2 := s1.next hB2
              have hll := len_list s2.set.view
              go_wp2_with fail
              refine hll.mono ?_
              rintro e w4 ⟨rfl, hB4⟩
              clear hll
              have s4 : Hid _ := s2.next hB4
              go_wp2_with fail
              go_roundw
              case rel => exact ⟨i + 1, b, mo, M, by go_num, by omega, by omega, rfl, s4.out, by omega⟩
              case measure => simp [intOf]; omega
          · subst hk
            change _ = (7 : Int) at hkv
            as_aux_lemma =>
              have hak := asked_any s1.set.view hia (by omega) t2 ht2
              go_wp2_with fail
              refine hak.mono ?_
              rintro e w2 ⟨rfl, hB2⟩
              clear hak
              have s2 := s1.next hB2
              have hll := len_list s2.set.view
              go_wp2_with fail
              refine hll.mono ?_
              rintro e w4 ⟨rfl, hB4⟩
              clear hll
              have s4 : Hid _ := s2.next hB4
              go_wp2_with fail
              go_roundw
              case rel => exact ⟨i + 1, b, mo, M, by go_num, by omega, by omega, rfl, s4.out, by omega⟩
              case measure => simp [intOf]; omega
          · have hk4 : ((K : Int) == 4) = false := beq_eq_false_iff_ne.2 (by omega)
            have hk5 : ((K : Int) == 5) = false := beq_eq_false_iff_ne.2 (by omega)
            have hk6 : ((K : Int) == 6) = false := beq_eq_false_iff_ne.2 (by omega)
            have hk7 : ((K : Int) == 7) = false := beq_eq_false_iff_ne.2 (by omega)
            as_aux_lemma =>
              go_wp2_with fail
              go_loopw [5, 13] (fun lv y wr => ∃ (j : Nat) (mj : Option Nat) (N : Nat → Bool), y = .int .i64 (j : Nat) ∧ j ≤ mn + 1 ∧ St w wr b mj lv N ∧ (memFrom N 0).length ≤ 4000 + 2 * i ∧ Holds wr g 28 #[.int .i64 t1, .int .i64 t2, .int .i64 t3]) (fun _ y _ => mn + 1 - (intOf y).toNat)
              case atStart => exact ⟨0, mo, M, rfl, by omega, s1, hlen, q1⟩
              case round =>
                clear hia hiv s1 st e10 e11 e12 q1 hM
                obtain ⟨j, mj, N, rfl, hjm, sj, hlj, qj⟩ := hrel
                have hNb := sj.bound
                obtain ⟨pj, cj, hvj, _⟩ := sj.shape
                subst hvj
                have f1 : wr.cell? ⟨g, 1, none⟩ = some (.int .i64 t2) := qj.cell 1
                have hlji : ((memFrom N 0).length : Int) ≤ 5000 := by omega
                by_cases hgo : j ≤ mn ∧ (memFrom N 0).length < 4000 ∧ t2 < 2147483647
                · obtain ⟨hg1, hg2, hg3⟩ := hgo
                  have hg1i : (j : Int) ≤ mn := by omega
                  have hg2i : ((memFrom N 0).length : Int) < 4000 := by omega
                  have ha1 := qadd_any sj.list hNb (by omega) (t2 + j)
                  go_wp2_with fail
                  refine ha1.mono ?_
                  rintro e w4 ⟨v4, rfl, l4, hB4⟩
                  clear ha1
                  have s4 := sj.next hB4
                  have q4 := below_holds hB4 qj
                  have f14 : w4.cell? ⟨g, 1, none⟩ = some (.int .i64 t2) := q4.cell 1
                  have hc1 := card_add N hNb (t2 + j)
                  obtain ⟨p4, c4, rfl, _⟩ := l4.intsAt
                  have hadd := add_any s4.set (t2 + j) (by omega)
                  go_wp2_with fail
                  refine hadd.mono ?_
                  rintro e w5 ⟨rfl, mo5, hs5, hn5, ho5⟩
                  clear hadd
                  have s5 : Hid (St w w5 b mo5 _ (addM N (t2 + j))) := s4.add l4 hs5 hn5 ho5
                  have q5 : Hid _ := s4.set.other ho5 q4 (by decide)
                  have HN : Hid ((memFrom (addM N (t2 + j)) 0).length ≤ 4000 + 2 * i) := by show _ ≤ _; omega
                  clear s4 q4 l4 hs5 sj qj
                  generalize addB N (t2 + j) = bb
                  go_wp2_with fail
                  go_roundw
                  case rel => exact ⟨j + 1, mo5, addM N (t2 + j), by go_num, by omega, s5.out, HN.out, q5.out⟩
                  case measure => simp [intOf]; omega
                · have hll := len_list sj.set.view
                  by_cases hg1 : j ≤ mn
                  · have hg1i : (j : Int) ≤ mn := by omega
                    by_cases hg2 : (memFrom N 0).length < 4000
                    · have hg2i : ((memFrom N 0).length : Int) < 4000 := by omega
                      have hg3i : ¬ t2 < 2147483647 := by omega
                      go_wp2_with fail
                      refine hll.mono ?_
                      rintro e w6 ⟨rfl, hB6⟩
                      clear hll
                      have s6 : Hid _ := sj.next hB6
                      go_wp2_with fail
                      go_roundw
                      case rel => exact ⟨i + 1, b, mj, N, by go_num, by omega, by omega, rfl, s6.out, by omega⟩
                      case measure => simp [intOf]; omega
                    · have hg2i : ¬ ((memFrom N 0).length : Int) < 4000 := by omega
                      go_wp2_with fail
                      refine hll.mono ?_
                      rintro e w6 ⟨rfl, hB6⟩
                      clear hll
                      have s6 : Hid _ := sj.next hB6
                      go_wp2_with fail
                      go_roundw
                      case rel => exact ⟨i + 1, b, mj, N, by go_num, by omega, by omega, rfl, s6.out, by omega⟩
                      case measure => simp [intOf]; omega
                  · have hg1i : ¬ (j : Int) ≤ mn := by omega
                    go_wp2_with fail
                    refine hll.mono ?_
                    rintro e w6 ⟨rfl, hB6⟩
                    clear hll
                    have s6 : Hid _ := sj.next hB6
                    go_wp2_with fail
                    go_roundw
                    case rel => exact ⟨i + 1, b, mj, N, by go_num, by omega, by omega, rfl, s6.out, by omega⟩
                    case measure => simp [intOf]; omega
        · obtain ⟨K, hkv⟩ : ∃ K : Nat, t1.tmod 8 = (K : Int) := ⟨(t1.tmod 8).toNat, by omega⟩
          have hknn : ¬ (K : Int) < 0 := by omega
          have hK8 : K < 8 := by omega
          clear hkneg hk8a hk8b
          have hK5 : K = 4 ∨ K = 5 ∨ K = 6 ∨ K = 7 ∨ K < 4 := by omega
          rcases hK5 with hk | hk | hk | hk | hk
          · subst hk
            change _ = (4 : Int) at hkv
            as_aux_lemma =>
              have hqc := qcut_any hia (by omega) t2
              rw [cut_eq hM] at hqc
              go_wp2_with fail
              refine hqc.mono ?_
              rintro e w2 ⟨v2, rfl, hv2, hB2⟩
              clear hqc
              obtain ⟨p2, c2', rfl, hi2⟩ := hv2.intsAt
              have s2 := s1.next hB2
              have q2 := below_holds hB2 q1
              have d20 : w2.cell? ⟨g, 0, none⟩ = some (.int .i64 t1) := q2.cell 0
              have d21 : w2.cell? ⟨g, 1, none⟩ = some (.int .i64 t2) := q2.cell 1
              have hct := cut_list s2.set t2 (by omega)
              have hsh := cut_shorter M hM t2
              obtain ⟨n2, hn2⟩ : ∃ n2, (memFrom (cutM M t2.toNat) 0).length = n2 := ⟨_, rfl⟩
              have HN2 : Hid ((memFrom (cutM M t2.toNat) 0).length = n2) := hn2
              rw [hn2] at hct hsh hi2 ⊢
              clear hn2
              obtain ⟨dd, hdd⟩ : ∃ dd : Int, ((memFrom M 0).length : Int) - (n2 : Int) = dd := ⟨_, rfl⟩
              rw [hdd] at hct
              have hd1 : dd ≤ 10000 := by omega
              have hd2 : -10000 ≤ dd := by omega
              go_wp2_with fail
              refine hct.mono ?_
              rintro e w3 ⟨rfl, hs3, ho3⟩
              clear hct
              have s3 : St w w3 b mo (.slice p2 (memFrom (cutM M t2.toNat) 0).length c2') (cutM M t2.toNat) := s2.add hv2.zero hs3 (Newer.refl _ _) ho3
              have hll := len_list s3.set.view
              rw [HN2.out] at hll
              have HN : Hid (n2 ≤ 4000 + 2 * (i + 1)) := by show _ ≤ _; omega
              go_wp2_with fail
              refine hll.mono ?_
              rintro e w4 ⟨rfl, hB4⟩
              clear hll
              have s4 : Hid _ := s3.next hB4
              clear s3 s2
              go_wp2_with fail
              go_roundw
              case rel => exact ⟨i + 1, b, mo, cutM M t2.toNat, by go_num, by omega, by omega, rfl, by rw [← HN2.out]; exact s4.out, by rw [HN2.out]; exact HN.out⟩
              case measure => simp [intOf]; omega
          · subst hk
            change _ = (5 : Int) at hkv
            as_aux_lemma =>
              go_wp2_with fail
              have hnw := new_any (w := W1.alloc (.cells #[.int .i64 t2, .int .i64 t3] 3)) (v := .slice (some ⟨W1.heap.size, 0, none⟩) 2 2) (l := [t2, t3]) (.inr ⟨_, 0, 2, rfl, fun i hi => by
                have hi' : i < 2 := hi
                have h0 := (Holds.new W1 3 #[.int .i64 t2, .int .i64 t3]).cell 0
                have h1 := (Holds.new W1 3 #[.int .i64 t2, .int .i64 t3]).cell 1
                match i, hi' with
                | 0, _ => exact h0
                | 1, _ => exact h1⟩) (by simp; omega) (by simp)
              refine hnw.mono ?_
              rintro e w2 ⟨b2, rfl, mo2, hs2, hb2, hm2, hB2⟩
              clear hnw
              have s2 := (s1.next (below_new1 W1 (.cells #[.int .i64 t2, .int .i64 t3] 3))).next hB2
              have q2 := below_holds hB2 (below_holds (below_new1 W1 (.cells #[.int .i64 t2, .int .i64 t3] 3)) q1)
              have hun := union_any s2.set.view hs2.view
              rw [addM_two] at hun
              go_wp2_with fail
              refine hun.mono ?_
              rintro e w3 ⟨b3, rfl, m3, hs3, hb3, hm3, hB3⟩
              clear hun hs2
              have l3 := s2.list.below0 hB3
              have q3 := below_holds hB3 q2
              have d31 : w3.cell? ⟨g, 1, none⟩ = some (.int .i64 t2) := q3.cell 1
              have hz2 := s2.below.size
              have hb3w : w.heap.size ≤ b3 := by omega
              have hm3w : w.heap.size ≤ m3 := by omega
              have hBw3 := below_new s2.below hB3
              have ha1 := qadd_any l3 hM (by omega) t2
              go_wp2_with fail
              refine ha1.mono ?_
              rintro e w4 ⟨v4, rfl, l4, hB4⟩
              clear ha1 l3
              have q4 := below_holds hB4 q3
              have d42 : w4.cell? ⟨g, 2, none⟩ = some (.int .i64 t3) := q4.cell 2
              have hc1 := card_add M hM t2
              have ha2 := qadd_any l4 (addM_bound hM t2) (by omega) t3
              obtain ⟨p4, c4, rfl, _⟩ := l4.intsAt
              go_wp2_with fail
              refine ha2.mono ?_
              rintro e w5 ⟨v5, rfl, l5, hB5⟩
              clear ha2 l4
              have hc2 := card_add (addM M t2) (addM_bound hM t2) t3
              have s5 : St w w5 b3 (some m3) v5 (addM (addM M t2) t3) := ⟨(hs3.below hB4).below hB5, l5, ⟨hb3w, fun m e => by cases e; exact hm3w⟩, below_new (below_new hBw3 hB4) hB5⟩
              obtain ⟨p5, c5, rfl, _⟩ := s5.shape
              have hll := len_list s5.set.view
              have HN : Hid ((memFrom (addM (addM M t2) t3) 0).length ≤ 4000 + 2 * (i + 1)) := by show _ ≤ _; omega
              generalize hN2 : (memFrom (addM (addM M t2) t3) 0).length = n2 at hll HN ⊢
              have HN2 : Hid ((memFrom (addM (addM M t2) t3) 0).length = n2) := hN2
              rw [hN2] at s5
              clear hN2
              go_wp2_with fail
              refine hll.mono ?_
              rintro e w6 ⟨rfl, hB6⟩
              clear hll
              have s6 : Hid _ := s5.next hB6
              go_wp2_with fail
              go_roundw
              case rel => exact ⟨i + 1, b3, some m3, addM (addM M t2) t3, by go_num, by omega, by omega, rfl, s6.out, by rw [HN2.out]; exact HN.out⟩
              case measure => simp [intOf]; omega
          · subst hk
            change _ = (6 : Int) at hkv
            as_aux_lemma =>
              have hak := asked_any s1.set.view hia (by omega) t2 ht2
              go_wp2_with fail
              refine hak.mono ?_
              rintro e w2 ⟨rfl, hB2⟩
              clear hak
              have s2 := s1.next hB2
              have hll := len_list s2.set.view
              go_wp2_with fail
              refine hll.mono ?_
              rintro e w4 ⟨rfl, hB4⟩
              clear hll
              have s4 : Hid _ := s2.next hB4
              go_wp2_with fail
              go_roundw
              case rel => exact ⟨i + 1, b, mo, M, by go_num, by omega, by omega, rfl, s4.out, by omega⟩
              case measure => simp [intOf]; omega
          · subst hk
            change _ = (7 : Int) at hkv
            as_aux_lemma =>
              have hak := asked_any s1.set.view hia (by omega) t2 ht2
              go_wp2_with fail
              refine hak.mono ?_
              rintro e w2 ⟨rfl, hB2⟩
              clear hak
              have s2 := s1.next hB2
              have hll := len_list s2.set.view
              go_wp2_with fail
              refine hll.mono ?_
              rintro e w4 ⟨rfl, hB4⟩
              clear hll
              have s4 : Hid _ := s2.next hB4
              go_wp2_with fail
              go_roundw
              case rel => exact ⟨i + 1, b, mo, M, by go_num, by omega, by omega, rfl, s4.out, by omega⟩
              case measure => simp [intOf]; omega
          · have hk4 : ((K : Int) == 4) = false := beq_eq_false_iff_ne.2 (by omega)
            have hk5 : ((K : Int) == 5) = false := beq_eq_false_iff_ne.2 (by omega)
            have hk6 : ((K : Int) == 6) = false := beq_eq_false_iff_ne.2 (by omega)
            have hk7 : ((K : Int) == 7) = false := beq_eq_false_iff_ne.2 (by omega)
            as_aux_lemma =>
              go_wp2_with fail
              go_loopw [5, 13] (fun lv y wr => ∃ (j : Nat) (mj : Option Nat) (N : Nat → Bool), y = .int .i64 (j : Nat) ∧ j ≤ mn + 1 ∧ St w wr b mj lv N ∧ (memFrom N 0).length ≤ 4000 + 2 * i ∧ Holds wr g 28 #[.int .i64 t1, .int .i64 t2, .int .i64 t3]) (fun _ y _ => mn + 1 - (intOf y).toNat)
              case atStart => exact ⟨0, mo, M, rfl, by omega, s1, hlen, q1⟩
              case round =>
                clear hia hiv s1 st e10 e11 e12 q1 hM
                obtain ⟨j, mj, N, rfl, hjm, sj, hlj, qj⟩ := hrel
                have hNb := sj.bound
                obtain ⟨pj, cj, hvj, _⟩ := sj.shape
                subst hvj
                have f1 : wr.cell? ⟨g, 1, none⟩ = some (.int .i64 t2) := qj.cell 1
                have hlji : ((memFrom N 0).length : Int) ≤ 5000 := by omega
                by_cases hgo : j ≤ mn ∧ (memFrom N 0).length < 4000 ∧ t2 < 2147483647
                · obtain ⟨hg1, hg2, hg3⟩ := hgo
                  have hg1i : (j : Int) ≤ mn := by omega
                  have hg2i : ((memFrom N 0).length : Int) < 4000 := by omega
                  have ha1 := qadd_any sj.list hNb (by omega) (t2 + j)
                  go_wp2_with fail
                  refine ha1.mono ?_
                  rintro e w4 ⟨v4, rfl, l4, hB4⟩
                  clear ha1
                  have s4 := sj.next hB4
                  have q4 := below_holds hB4 qj
                  have f14 : w4.cell? ⟨g, 1, none⟩ = some (.int .i64 t2) := q4.cell 1
                  have hc1 := card_add N hNb (t2 + j)
                  obtain ⟨p4, c4, rfl, _⟩ := l4.intsAt
                  have hadd := add_any s4.set (t2 + j) (by omega)
                  go_wp2_with fail
                  refine hadd.mono ?_
                  rintro e w5 ⟨rfl, mo5, hs5, hn5, ho5⟩
                  clear hadd
                  have s5 : Hid (St w w5 b mo5 _ (addM N (t2 + j))) := s4.add l4 hs5 hn5 ho5
                  have q5 : Hid _ := s4.set.other ho5 q4 (by decide)
                  have HN : Hid ((memFrom (addM N (t2 + j)) 0).length ≤ 4000 + 2 * i) := by show _ ≤ _; omega
                  clear s4 q4 l4 hs5 sj qj
                  generalize addB N (t2 + j) = bb
                  go_wp2_with fail
                  go_roundw
                  case rel => exact ⟨j + 1, mo5, addM N (t2 + j), by go_num, by omega, s5.out, HN.out, q5.out⟩
                  case measure => simp [intOf]; omega
                · have hll := len_list sj.set.view
                  by_cases hg1 : j ≤ mn
                  · have hg1i : (j : Int) ≤ mn := by omega
                    by_cases hg2 : (memFrom N 0).length < 4000
                    · have hg2i : ((memFrom N 0).length : Int) < 4000 := by omega
                      have hg3i : ¬ t2 < 2147483647 := by omega
                      go_wp2_with fail
                      refine hll.mono ?_
                      rintro e w6 ⟨rfl, hB6⟩
                      clear hll
                      have s6 : Hid _ := sj.next hB6
                      go_wp2_with fail
                      go_roundw
                      case rel => exact ⟨i + 1, b, mj, N, by go_num, by omega, by omega, rfl, s6.out, by omega⟩
                      case measure => simp [intOf]; omega
                    · have hg2i : ¬ ((memFrom N 0).length : Int) < 4000 := by omega
                      go_wp2_with fail
                      refine hll.mono ?_
                      rintro e w6 ⟨rfl, hB6⟩
                      clear hll
                      have s6 : Hid _ := sj.next hB6
                      go_wp2_with fail
                      go_roundw
                      case rel => exact ⟨i + 1, b, mj, N, by go_num, by omega, by omega, rfl, s6.out, by omega⟩
                      case measure => simp [intOf]; omega
                  · have hg1i : ¬ (j : Int) ≤ mn := by omega
                    go_wp2_with fail
                    refine hll.mono ?_
                    rintro e w6 ⟨rfl, hB6⟩
                    clear hll
                    have s6 : Hid _ := sj.next hB6
                    go_wp2_with fail
                    go_roundw
                    case rel => exact ⟨i + 1, b, mj, N, by go_num, by omega, by omega, rfl, s6.out, by omega⟩
                    case measure => simp [intOf]; omega
      · have hmv : t3.tmod 301 = (mn : Int) := by omega
        clear hmn hmneg
        have hmneg : ¬ (mn : Int) < 0 := by omega
        by_cases hkneg : t1.tmod 8 < 0
        · obtain ⟨K, hkv⟩ : ∃ K : Nat, t1.tmod 8 + 8 = (K : Int) := ⟨(t1.tmod 8 + 8).toNat, by omega⟩
          have hK8 : K < 8 := by omega
          clear hk8a
          have hK5 : K = 4 ∨ K = 5 ∨ K = 6 ∨ K = 7 ∨ K < 4 := by omega
          rcases hK5 with hk | hk | hk | hk | hk
          · subst hk
            change _ = (4 : Int) at hkv
            as_aux_lemma =>
              have hqc := qcut_any hia (by omega) t2
              rw [cut_eq hM] at hqc
              go_wp2_with fail
              refine hqc.mono ?_
              rintro e w2 ⟨v2, rfl, hv2, hB2⟩
              clear hqc
              obtain ⟨p2, c2', rfl, hi2⟩ := hv2.intsAt
              have s2 := s1.next hB2
              have q2 := below_holds hB2 q1
              have d20 : w2.cell? ⟨g, 0, none⟩ = some (.int .i64 t1) := q2.cell 0
              have d21 : w2.cell? ⟨g, 1, none⟩ = some (.int .i64 t2) := q2.cell 1
              have hct := cut_list s2.set t2 (by omega)
              have hsh := cut_shorter M hM t2
              obtain ⟨n2, hn2⟩ : ∃ n2, (memFrom (cutM M t2.toNat) 0).length = n2 := ⟨_, rfl⟩
              have HN2 : Hid ((memFrom (cutM M t2.toNat) 0).length = n2) := hn2
              rw [hn2] at hct hsh hi2 ⊢
              clear hn2
              obtain ⟨dd, hdd⟩ : ∃ dd : Int, ((memFrom M 0).length : Int) - (n2 : Int) = dd := ⟨_, rfl⟩
              rw [hdd] at hct
              have hd1 : dd ≤ 10000 := by omega
              have hd2 : -10000 ≤ dd := by omega
              go_wp2_with fail
              refine hct.mono ?_
              rintro e w3 ⟨rfl, hs3, ho3⟩
              clear hct
              have s3 : St w w3 b mo (.slice p2 (memFrom (cutM M t2.toNat) 0).length c2') (cutM M t2.toNat) := s2.add hv2.zero hs3 (Newer.refl _ _) ho3
              have hll := len_list s3.set.view
              rw [HN2.out] at hll
              have HN : Hid (n2 ≤ 4000 + 2 * (i + 1)) := by show _ ≤ _; omega
              go_wp2_with fail
              refine hll.mono ?_
              rintro e w4 ⟨rfl, hB4⟩
              clear hll
              have s4 : Hid _ := s3.next hB4
              clear s3 s2
              go_wp2_with fail
              go_roundw
              case rel => exact ⟨i + 1, b, mo, cutM M t2.toNat, by go_num, by omega, by omega, rfl, by rw [← HN2.out]; exact s4.out, by rw [HN2.out]; exact HN.out⟩
              case measure => simp [intOf]; omega
          · subst hk
            change _ = (5 : Int) at hkv
            as_aux_lemma =>
              go_wp2_with fail
              have hnw := new_any (w := W1.alloc (.cells #[.int .i64 t2, .int .i64 t3] 3)) (v := .slice (some ⟨W1.heap.size, 0, none⟩) 2 2) (l := [t2, t3]) (.inr ⟨_, 0, 2, rfl, fun i hi => by
                have hi' : i < 2 := hi
                have h0 := (Holds.new W1 3 #[.int .i64 t2, .int .i64 t3]).cell 0
                have h1 := (Holds.new W1 3 #[.int .i64 t2, .int .i64 t3]).cell 1
                match i, hi' with
                | 0, _ => exact h0
                | 1, _ => exact h1⟩) (by simp; omega) (by simp)
              refine hnw.mono ?_
              rintro e w2 ⟨b2, rfl, mo2, hs2, hb2, hm2, hB2⟩
              clear hnw
              have s2 := (s1.next (below_new1 W1 (.cells #[.int .i64 t2, .int .i64 t3] 3))).next hB2
              have q2 := below_holds hB2 (below_holds (below_new1 W1 (.cells #[.int .i64 t2, .int .i64 t3] 3)) q1)
              have hun := union_any s2.set.view hs2.view
              rw [addM_two] at hun
              go_wp2_with fail
              refine hun.mono ?_
              rintro e w3 ⟨b3, rfl, m3, hs3, hb3, hm3, hB3⟩
              clear hun hs2
              have l3 := s2.list.below0 hB3
              have q3 := below_holds hB3 q2
              have d31 : w3.cell? ⟨g, 1, none⟩ = some (.int .i64 t2) := q3.cell 1
              have hz2 := s2.below.size
              have hb3w : w.heap.size ≤ b3 := by omega
              have hm3w : w.heap.size ≤ m3 := by omega
              have hBw3 := below_new s2.below hB3
              have ha1 := qadd_any l3 hM (by omega) t2
              go_wp2_with fail
              refine ha1.mono ?_
              rintro e w4 ⟨v4, rfl, l4, hB4⟩
              clear ha1 l3
              have q4 := below_holds hB4 q3
              have d42 : w4.cell? ⟨g, 2, none⟩ = some (.int .i64 t3) := q4.cell 2
              have hc1 := card_add M hM t2
              have ha2 := qadd_any l4 (addM_bound hM t2) (by omega) t3
              obtain ⟨p4, c4, rfl, _⟩ := l4.intsAt
              go_wp2_with fail
              refine ha2.mono ?_
              rintro e w5 ⟨v5, rfl, l5, hB5⟩
              clear ha2 l4
              have hc2 := card_add (addM M t2) (addM_bound hM t2) t3
              have s5 : St w w5 b3 (some m3) v5 (addM (addM M t2) t3) := ⟨(hs3.below hB4).below hB5, l5, ⟨hb3w, fun m e => by cases e; exact hm3w⟩, below_new (below_new hBw3 hB4) hB5⟩
              obtain ⟨p5, c5, rfl, _⟩ := s5.shape
              have hll := len_list s5.set.view
              have HN : Hid ((memFrom (addM (addM M t2) t3) 0).length ≤ 4000 + 2 * (i + 1)) := by show _ ≤ _; omega
              generalize hN2 : (memFrom (addM (addM M t2) t3) 0).length = n2 at hll HN ⊢
              have HN2 : Hid ((memFrom (addM (addM M t2) t3) 0).length = n2) := hN2
              rw [hN2] at s5
              clear hN2
              go_wp2_with fail
              refine hll.mono ?_
              rintro e w6 ⟨rfl, hB6⟩
              clear hll
              have s6 : Hid _ := s5.next hB6
              go_wp2_with fail
              go_roundw
              case rel => exact ⟨i + 1, b3, some m3, addM (addM M t2) t3, by go_num, by omega, by omega, rfl, s6.out, by rw [HN2.out]; exact HN.out⟩
              case measure => simp [intOf]; omega
          · subst hk
            change _ = (6 : Int) at hkv
            as_aux_lemma =>
              have hak := asked_any s1.set.view hia (by omega) t2 ht2
              go_wp2_with fail
              refine hak.mono ?_
              rintro e w2 ⟨rfl, hB2⟩
              clear hak
              have s2 := s1.next hB2
              have hll := len_list s2.set.view
              go_wp2_with fail
              refine hll.mono ?_
              rintro e w4 ⟨rfl, hB4⟩
              clear hll
              have s4 : Hid _ := s2.next hB4
              go_wp2_with fail
              go_roundw
              case rel => exact ⟨i + 1, b, mo, M, by go_num, by omega, by omega, rfl, s4.out, by omega⟩
              case measure => simp [intOf]; omega
          · subst hk
            change _ = (7 : Int) at hkv
            as_aux_lemma =>
              have hak := asked_any s1.set.view hia (by omega) t2 ht2
              go_wp2_with fail
              refine hak.mono ?_
              rintro e w2 ⟨rfl, hB2⟩
              clear hak
              have s2 := s1.next hB2
              have hll := len_list s2.set.view
              go_wp2_with fail
              refine hll.mono ?_
              rintro e w4 ⟨rfl, hB4⟩
              clear hll
              have s4 : Hid _ := s2.next hB4
              go_wp2_with fail
              go_roundw
              case rel => exact ⟨i + 1, b, mo, M, by go_num, by omega, by omega, rfl, s4.out, by omega⟩
              case measure => simp [intOf]; omega
          · have hk4 : ((K : Int) == 4) = false := beq_eq_false_iff_ne.2 (by omega)
            have hk5 : ((K : Int) == 5) = false := beq_eq_false_iff_ne.2 (by omega)
            have hk6 : ((K : Int) == 6) = false := beq_eq_false_iff_ne.2 (by omega)
            have hk7 : ((K : Int) == 7) = false := beq_eq_false_iff_ne.2 (by omega)
            as_aux_lemma =>
              go_wp2_with fail
              go_loopw [5, 13] (fun lv y wr => ∃ (j : Nat) (mj : Option Nat) (N : Nat → Bool), y = .int .i64 (j : Nat) ∧ j ≤ mn + 1 ∧ St w wr b mj lv N ∧ (memFrom N 0).length ≤ 4000 + 2 * i ∧ Holds wr g 28 #[.int .i64 t1, .int .i64 t2, .int .i64 t3]) (fun _ y _ => mn + 1 - (intOf y).toNat)
              case atStart => exact ⟨0, mo, M, rfl, by omega, s1, hlen, q1⟩
              case round =>
                clear hia hiv s1 st e10 e11 e12 q1 hM
                obtain ⟨j, mj, N, rfl, hjm, sj, hlj, qj⟩ := hrel
                have hNb := sj.bound
                obtain ⟨pj, cj, hvj, _⟩ := sj.shape
                subst hvj
                have f1 : wr.cell? ⟨g, 1, none⟩ = some (.int .i64 t2) := qj.cell 1
                have hlji : ((memFrom N 0).length : Int) ≤ 5000 := by omega
                by_cases hgo : j ≤ mn ∧ (memFrom N 0).length < 4000 ∧ t2 < 2147483647
                · obtain ⟨hg1, hg2, hg3⟩ := hgo
                  have hg1i : (j : Int) ≤ mn := by omega
                  have hg2i : ((memFrom N 0).length : Int) < 4000 := by omega
                  have ha1 := qadd_any sj.list hNb (by omega) (t2 + j)
                  go_wp2_with fail
                  refine ha1.mono ?_
                  rintro e w4 ⟨v4, rfl, l4, hB4⟩
                  clear ha1
                  have s4 := sj.next hB4
                  have q4 := below_holds hB4 qj
                  have f14 : w4.cell? ⟨g, 1, none⟩ = some (.int .i64 t2) := q4.cell 1
                  have hc1 := card_add N hNb (t2 + j)
                  obtain ⟨p4, c4, rfl, _⟩ := l4.intsAt
                  have hadd := add_any s4.set (t2 + j) (by omega)
                  go_wp2_with fail
                  refine hadd.mono ?_
                  rintro e w5 ⟨rfl, mo5, hs5, hn5, ho5⟩
                  clear hadd
                  have s5 : Hid (St w w5 b mo5 _ (addM N (t2 + j))) := s4.add l4 hs5 hn5 ho5
                  have q5 : Hid _ := s4.set.other ho5 q4 (by decide)
                  have HN : Hid ((memFrom (addM N (t2 + j)) 0).length ≤ 4000 + 2 * i) := by show _ ≤ _; omega
                  clear s4 q4 l4 hs5 sj qj
                  generalize addB N (t2 + j) = bb
                  go_wp2_with fail
                  go_roundw
                  case rel => exact ⟨j + 1, mo5, addM N (t2 + j), by go_num, by omega, s5.out, HN.out, q5.out⟩
                  case measure => simp [intOf]; omega
                · have hll := len_list sj.set.view
                  by_cases hg1 : j ≤ mn
                  · have hg1i : (j : Int) ≤ mn := by omega
                    by_cases hg2 : (memFrom N 0).length < 4000
                    · have hg2i : ((memFrom N 0).length : Int) < 4000 := by omega
                      have hg3i : ¬ t2 < 2147483647 := by omega
                      go_wp2_with fail
                      refine hll.mono ?_
                      rintro e w6 ⟨rfl, hB6⟩
                      clear hll
                      have s6 : Hid _ := sj.next hB6
                      go_wp2_with fail
                      go_roundw
                      case rel => exact ⟨i + 1, b, mj, N, by go_num, by omega, by omega, rfl, s6.out, by omega⟩
                      case measure => simp [intOf]; omega
                    · have hg2i : ¬ ((memFrom N 0).length : Int) < 4000 := by omega
                      go_wp2_with fail
                      refine hll.mono ?_
                      rintro e w6 ⟨rfl, hB6⟩
                      clear hll
                      have s6 : Hid _ := sj.next hB6
                      go_wp2_with fail
                      go_roundw
                      case rel => exact ⟨i + 1, b, mj, N, by go_num, by omega, by omega, rfl, s6.out, by omega⟩
                      case measure => simp [intOf]; omega
                  · have hg1i : ¬ (j : Int) ≤ mn := by omega
                    go_wp2_with fail
                    refine hll.mono ?_
                    rintro e w6 ⟨rfl, hB6⟩
                    clear hll
                    have s6 : Hid _ := sj.next hB6
                    go_wp2_with fail
                    go_roundw
                    case rel => exact ⟨i + 1, b, mj, N, by go_num, by omega, by omega, rfl, s6.out, by omega⟩
                    case measure => simp [intOf]; omega
        · obtain ⟨K, hkv⟩ : ∃ K : Nat, t1.tmod 8 = (K : Int) := ⟨(t1.tmod 8).toNat, by omega⟩
          have hknn : ¬ (K : Int) < 0 := by omega
          have hK8 : K < 8 := by omega
          clear hkneg hk8a hk8b
          have hK5 : K = 4 ∨ K = 5 ∨ K = 6 ∨ K = 7 ∨ K < 4 := by omega
          rcases hK5 with hk | hk | hk | hk | hk
          · subst hk
            change _ = (4 : Int) at hkv
            as_aux_lemma =>
              have hqc := qcut_any hia (by omega) t2
              rw [cut_eq hM] at hqc
              go_wp2_with fail
              refine hqc.mono ?_
              rintro e w2 ⟨v2, rfl, hv2, hB2⟩
              clear hqc
              obtain ⟨p2, c2', rfl, hi2⟩ := hv2.intsAt
              have s2 := s1.next hB2
              have q2 := below_holds hB2 q1
              have d20 : w2.cell? ⟨g, 0, none⟩ = some (.int .i64 t1) := q2.cell 0
              have d21 : w2.cell? ⟨g, 1, none⟩ = some (.int .i64 t2) := q2.cell 1
              have hct := cut_list s2.set t2 (by omega)
              have hsh := cut_shorter M hM t2
              obtain ⟨n2, hn2⟩ : ∃ n2, (memFrom (cutM M t2.toNat) 0).length = n2 := ⟨_, rfl⟩
              have HN2 : Hid ((memFrom (cutM M t2.toNat) 0).length = n2) := hn2
              rw [hn2] at hct hsh hi2 ⊢
              clear hn2
              obtain ⟨dd, hdd⟩ : ∃ dd : Int, ((memFrom M 0).length : Int) - (n2 : Int) = dd := ⟨_, rfl⟩
              rw [hdd] at hct
              have hd1 : dd ≤ 10000 := by omega
              have hd2 : -10000 ≤ dd := by omega
              go_wp2_with fail
              refine hct.mono ?_
              rintro e w3 ⟨rfl, hs3, ho3⟩
              clear hct
              have s3 : St w w3 b mo (.slice p2 (memFrom (cutM M t2.toNat) 0).length c2') (cutM M t2.toNat) := s2.add hv2.zero hs3 (Newer.refl _ _) ho3
              have hll := len_list s3.set.view
              rw [HN2.out] at hll
              have HN : Hid (n2 ≤ 4000 + 2 * (i + 1)) := by show _ ≤ _; omega
              go_wp2_with fail
              refine hll.mono ?_
              rintro e w4 ⟨rfl, hB4⟩
              clear hll
              have s4 : Hid _ := s3.next hB4
              clear s3 s2
              go_wp2_with fail
              go_roundw
              case rel => exact ⟨i + 1, b, mo, cutM M t2.toNat, by go_num, by omega, by omega, rfl, by rw [← HN2.out]; exact s4.out, by rw [HN2.out]; exact HN.out⟩
              case measure => simp [intOf]; omega
          · subst hk
            change _ = (5 : Int) at hkv
            as_aux_lemma =>
              go_wp2_with fail
              have hnw := new_any (w := W1.alloc (.cells #[.int .i64 t2, .int .i64 t3] 3)) (v := .slice (some ⟨W1.heap.size, 0, none⟩) 2 2) (l := [t2, t3]) (.inr ⟨_, 0, 2, rfl, fun i hi => by
                have hi' : i < 2 := hi
                have h0 := (Holds.new W1 3 #[.int .i64 t2, .int .i64 t3]).cell 0
                have h1 := (Holds.new W1 3 #[.int .i64 t2, .int .i64 t3]).cell 1
                match i, hi' with
                | 0, _ => exact h0
                | 1, _ => exact h1⟩) (by simp; omega) (by simp)
              refine hnw.mono ?_
              rintro e w2 ⟨b2, rfl, mo2, hs2, hb2, hm2, hB2⟩
              clear hnw
              have s2 := (s1.next (below_new1 W1 (.cells #[.int .i64 t2, .int .i64 t3] 3))).next hB2
              have q2 := below_holds hB2 (below_holds (below_new1 W1 (.cells #[.int .i64 t2, .int .i64 t3] 3)) q1)
              have hun := union_any s2.set.view hs2.view
              rw [addM_two] at hun
              go_wp2_with fail
              refine hun.mono ?_
              rintro e w3 ⟨b3, rfl, m3, hs3, hb3, hm3, hB3⟩
              clear hun hs2
              have l3 := s2.list.below0 hB3
              have q3 := below_holds hB3 q2
              have d31 : w3.cell? ⟨g, 1, none⟩ = some (.int .i64 t2) := q3.cell 1
              have hz2 := s2.below.size
              have hb3w : w.heap.size ≤ b3 := by omega
              have hm3w : w.heap.size ≤ m3 := by omega
              have hBw3 := below_new s2.below hB3
              have ha1 := qadd_any l3 hM (by omega) t2
              go_wp2_with fail
              refine ha1.mono ?_
              rintro e w4 ⟨v4, rfl, l4, hB4⟩
              clear ha1 l3
              have q4 := below_holds hB4 q3
              have d42 : w4.cell? ⟨g, 2, none⟩ = some (.int .i64 t3) := q4.cell 2
              have hc1 := card_add M hM t2
              have ha2 := qadd_any l4 (addM_bound hM t2) (by omega) t3
              obtain ⟨p4, c4, rfl, _⟩ := l4.intsAt
              go_wp2_with fail
              refine ha2.mono ?_
              rintro e w5 ⟨v5, rfl, l5, hB5⟩
              clear ha2 l4
              have hc2 := card_add (addM M t2) (addM_bound hM t2) t3
              have s5 : St w w5 b3 (some m3) v5 (addM (addM M t2) t3) := ⟨(hs3.below hB4).below hB5, l5, ⟨hb3w, fun m e => by cases e; exact hm3w⟩, below_new (below_new hBw3 hB4) hB5⟩
              obtain ⟨p5, c5, rfl, _⟩ := s5.shape
              have hll := len_list s5.set.view
              have HN : Hid ((memFrom (addM (addM M t2) t3) 0).length ≤ 4000 + 2 * (i + 1)) := by show _ ≤ _; omega
              generalize hN2 : (memFrom (addM (addM M t2) t3) 0).length = n2 at hll HN ⊢
              have HN2 : Hid ((memFrom (addM (addM M t2) t3) 0).length = n2) := hN2
              rw [hN2] at s5
              clear hN2
              go_wp2_with fail
              refine hll.mono ?_
              rintro e w6 ⟨rfl, hB6⟩
              clear hll
              have s6 : Hid _ := s5.next hB6
              go_wp2_with fail
              go_roundw
              case rel => exact ⟨i + 1, b3, some m3, addM (addM M t2) t3, by go_num, by omega, by omega, rfl, s6.out, by rw [HN2.out]; exact HN.out⟩
              case measure => simp [intOf]; omega
          · subst hk
            change _ = (6 : Int) at hkv
            as_aux_lemma =>
              have hak := asked_any s1.set.view hia (by omega) t2 ht2
              go_wp2_with fail
              refine hak.mono ?_
              rintro e w2 ⟨rfl, hB2⟩
              clear hak
              have s2 := s1.next hB2
              have hll := len_list s2.set.view
              go_wp2_with fail
              refine hll.mono ?_
              rintro e w4 ⟨rfl, hB4⟩
              clear hll
              have s4 : Hid _ := s2.next hB4
              go_wp2_with fail
              go_roundw
              case rel => exact ⟨i + 1, b, mo, M, by go_num, by omega, by omega, rfl, s4.out, by omega⟩
              case measure => simp [intOf]; omega
          · subst hk
            change _ = (7 : Int) at hkv
            as_aux_lemma =>
              have hak := asked_any s1.set.view hia (by omega) t2 ht2
              go_wp2_with fail
              refine hak.mono ?_
              rintro e w2 ⟨rfl, hB2⟩
              clear hak
              have s2 := s1.next hB2
              have hll := len_list s2.set.view
              go_wp2_with fail
              refine hll.mono ?_
              rintro e w4 ⟨rfl, hB4⟩
              clear hll
              have s4 : Hid _ := s2.next hB4
              go_wp2_with fail
              go_roundw
              case rel => exact ⟨i + 1, b, mo, M, by go_num, by omega, by omega, rfl, s4.out, by omega⟩
              case measure => simp [intOf]; omega
          · have hk4 : ((K : Int) == 4) = false := beq_eq_false_iff_ne.2 (by omega)
            have hk5 : ((K : Int) == 5) = false := beq_eq_false_iff_ne.2 (by omega)
            have hk6 : ((K : Int) == 6) = false := beq_eq_false_iff_ne.2 (by omega)
            have hk7 : ((K : Int) == 7) = false := beq_eq_false_iff_ne.2 (by omega)
            as_aux_lemma =>
              go_wp2_with fail
              go_loopw [5, 13] (fun lv y wr => ∃ (j : Nat) (mj : Option Nat) (N : Nat → Bool), y = .int .i64 (j : Nat) ∧ j ≤ mn + 1 ∧ St w wr b mj lv N ∧ (memFrom N 0).length ≤ 4000 + 2 * i ∧ Holds wr g 28 #[.int .i64 t1, .int .i64 t2, .int .i64 t3]) (fun _ y _ => mn + 1 - (intOf y).toNat)
              case atStart => exact ⟨0, mo, M, rfl, by omega, s1, hlen, q1⟩
              case round =>
                clear hia hiv s1 st e10 e11 e12 q1 hM
                obtain ⟨j, mj, N, rfl, hjm, sj, hlj, qj⟩ := hrel
                have hNb := sj.bound
                obtain ⟨pj, cj, hvj, _⟩ := sj.shape
                subst hvj
                have f1 : wr.cell? ⟨g, 1, none⟩ = some (.int .i64 t2) := qj.cell 1
                have hlji : ((memFrom N 0).length : Int) ≤ 5000 := by omega
                by_cases hgo : j ≤ mn ∧ (memFrom N 0).length < 4000 ∧ t2 < 2147483647
                · obtain ⟨hg1, hg2, hg3⟩ := hgo
                  have hg1i : (j : Int) ≤ mn := by omega
                  have hg2i : ((memFrom N 0).length : Int) < 4000 := by omega
                  have ha1 := qadd_any sj.list hNb (by omega) (t2 + j)
                  go_wp2_with fail
                  refine ha1.mono ?_
                  rintro e w4 ⟨v4, rfl, l4, hB4⟩
                  clear ha1
                  have s4 := sj.next hB4
                  have q4 := below_holds hB4 qj
                  have f14 : w4.cell? ⟨g, 1, none⟩ = some (.int .i64 t2) := q4.cell 1
                  have hc1 := card_add N hNb (t2 + j)
                  obtain ⟨p4, c4, rfl, _⟩ := l4.intsAt
                  have hadd := add_any s4.set (t2 + j) (by omega)
                  go_wp2_with fail
                  refine hadd.mono ?_
                  rintro e w5 ⟨rfl, mo5, hs5, hn5, ho5⟩
                  clear hadd
                  have s5 : Hid (St w w5 b mo5 _ (addM N (t2 + j))) := s4.add l4 hs5 hn5 ho5
                  have q5 : Hid _ := s4.set.other ho5 q4 (by decide)
                  have HN : Hid ((memFrom (addM N (t2 + j)) 0).length ≤ 4000 + 2 * i) := by show _ ≤ _; omega
                  clear s4 q4 l4 hs5 sj qj
                  generalize addB N (t2 + j) = bb
                  go_wp2_with fail
                  go_roundw
                  case rel => exact ⟨j + 1, mo5, addM N (t2 + j), by go_num, by omega, s5.out, HN.out, q5.out⟩
                  case measure => simp [intOf]; omega
                · have hll := len_list sj.set.view
                  by_cases hg1 : j ≤ mn
                  · have hg1i : (j : Int) ≤ mn := by omega
                    by_cases hg2 : (memFrom N 0).length < 4000
                    · have hg2i : ((memFrom N 0).length : Int) < 4000 := by omega
                      have hg3i : ¬ t2 < 2147483647 := by omega
                      go_wp2_with fail
                      refine hll.mono ?_
                      rintro e w6 ⟨rfl, hB6⟩
                      clear hll
                      have s6 : Hid _ := sj.next hB6
                      go_wp2_with fail
                      go_roundw
                      case rel => exact ⟨i + 1, b, mj, N, by go_num, by omega, by omega, rfl, s6.out, by omega⟩
                      case measure => simp [intOf]; omega
                    · have hg2i : ¬ ((memFrom N 0).length : Int) < 4000 := by omega
                      go_wp2_with fail
                      refine hll.mono ?_
                      rintro e w6 ⟨rfl, hB6⟩
                      clear hll
                      have s6 : Hid _ := sj.next hB6
                      go_wp2_with fail
                      go_roundw
                      case rel => exact ⟨i + 1, b, mj, N, by go_num, by omega, by omega, rfl, s6.out, by omega⟩
                      case measure => simp [intOf]; omega
                  · have hg1i : ¬ (j : Int) ≤ mn := by omega
                    go_wp2_with fail
                    refine hll.mono ?_
                    rintro e w6 ⟨rfl, hB6⟩
                    clear hll
                    have s6 : Hid _ := sj.next hB6
                    go_wp2_with fail
                    go_roundw
                    case rel => exact ⟨i + 1, b, mj, N, by go_num, by omega, by omega, rfl, s6.out, by omega⟩
                    case measure => simp [intOf]; omega
    · have hms := members_any st.set.view
      have hil : i ≤ 40 := hi40
      subst hlv
      have hleni : ((memFrom M 0).length : Int) ≤ 5000 := by omega
      by_cases hi1 : i < n
      · have hi1i : (i : Int) < n := by omega
        have hi2i : ¬ (i : Int) < 40 := by omega
        go_wp2_with fail
        refine hms.mono ?_
        rintro e w2 ⟨v2, rfl, hv2, hB2⟩
        clear hms
        obtain ⟨p2, c2, rfl, hi2⟩ := hv2.intsAt
        have s2 := st.next hB2
        have hsm := same_any hi2 (hiv.below hB2) (by omega) (by omega)
        rw [decide_eq_true rfl] at hsm
        go_wp2_with fail
        refine hsm.mono ?_
        rintro e w3 ⟨rfl, hB3⟩
        clear hsm
        have s3 := s2.next hB3
        have hi3 := (hiv.below hB2).below hB3
        have hak := asked_any s3.set.view hi3 (by omega) 0 (by omega)
        go_wp2_with fail
        refine hak.mono ?_
        rintro e w4 ⟨rfl, hB4⟩
        clear hak
        have s4 := s3.next hB4
        have hi4 := hi3.below hB4
        have hby := bytes_any s4.set.view
        have hqb : ∀ W, Below w4.heap.size w4 W → Calls Try.prog 21 #[.slice lp (memFrom M 0).length lc] W fun e w' => e = .returned (.string ⟨(bytesM M).toArray⟩) ∧ Below W.heap.size W w' := fun W hW => bytes_list hM (hi4.below hW) (by omega)
        generalize (⟨(bytesM M).toArray⟩ : ByteArray) = T at hby hqb
        go_wp2_with fail
        refine hby.mono ?_
        rintro e w5 ⟨rfl, hB5⟩
        clear hby
        have hqb5 := hqb w5 hB5
        clear hqb
        go_wp2_with fail
        refine hqb5.mono ?_
        rintro e w6 ⟨rfl, hB6⟩
        clear hqb5
        have hfin := below_new (below_new s4.below hB5) hB6
        go_wp2_with fail
        go_ret
        exact ⟨rfl, hfin⟩
      · have hi1i : ¬ (i : Int) < n := by omega
        go_wp2_with fail
        refine hms.mono ?_
        rintro e w2 ⟨v2, rfl, hv2, hB2⟩
        clear hms
        obtain ⟨p2, c2, rfl, hi2⟩ := hv2.intsAt
        have s2 := st.next hB2
        have hsm := same_any hi2 (hiv.below hB2) (by omega) (by omega)
        rw [decide_eq_true rfl] at hsm
        go_wp2_with fail
        refine hsm.mono ?_
        rintro e w3 ⟨rfl, hB3⟩
        clear hsm
        have s3 := s2.next hB3
        have hi3 := (hiv.below hB2).below hB3
        have hak := asked_any s3.set.view hi3 (by omega) 0 (by omega)
        go_wp2_with fail
        refine hak.mono ?_
        rintro e w4 ⟨rfl, hB4⟩
        clear hak
        have s4 := s3.next hB4
        have hi4 := hi3.below hB4
        have hby := bytes_any s4.set.view
        have hqb : ∀ W, Below w4.heap.size w4 W → Calls Try.prog 21 #[.slice lp (memFrom M 0).length lc] W fun e w' => e = .returned (.string ⟨(bytesM M).toArray⟩) ∧ Below W.heap.size W w' := fun W hW => bytes_list hM (hi4.below hW) (by omega)
        generalize (⟨(bytesM M).toArray⟩ : ByteArray) = T at hby hqb
        go_wp2_with fail
        refine hby.mono ?_
        rintro e w5 ⟨rfl, hB5⟩
        clear hby
        have hqb5 := hqb w5 hB5
        clear hqb
        go_wp2_with fail
        refine hqb5.mono ?_
        rintro e w6 ⟨rfl, hB6⟩
        clear hqb5
        have hfin := below_new (below_new s4.below hB5) hB6
        go_wp2_with fail
        go_ret
        exact ⟨rfl, hfin⟩
end Go.Proofs.Ytbenfmhcpipehaa
