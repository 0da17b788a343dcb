/-
  What the document's calls of last and Read do.
-/
import Derived.Test.YtonmjkalkkfhhaaDGoesW
namespace Go.Proofs.Ytonmjkalkkfhhaa
open Go Go.RowKit Go.Maps

theorem made_zeros (w : World) : ∃ w', (Instr.makeSlice 48 (.int .i64 1024) (.int .i64 1024)).run Try.prog w = .ok (.slice (some ⟨w.heap.size, 0, none⟩) 1024 1024) w' ∧ Below w.heap.size w w' ∧
    (convert 48 9 (.slice (some ⟨w.heap.size, 0, none⟩) 1024 1024)).run Try.prog w' = .ok (.string zeros) w' := by
  have h := run_make_row' (P := Try.prog) 48 5 (.int .u8 0) 1 underBytes (by kernel_rfl) rfl .i64 .i64 1024 (by omega) (by omega)
  have hr0 := World.rowIs_made w (.int .u8 0) 1024 5
  have hl : (List.replicate 1024 (0 : UInt8)).length = 1024 := List.length_replicate
  refine ⟨_, h w, (Below.refl _ _).alloc (Nat.le_refl _) _, ?_⟩
  have := run_convert_bytes_back (P := Try.prog) (w.alloc (.cells (madeCells #[.int .u8 0] 1024) 5)) 48 9 5 ⟨w.heap.size, 0, none⟩ 1024 (List.replicate 1024 0) underBytes (by kernel_rfl) (by kernel_rfl) (fun j hj => by
    rw [hl] at hj
    rw [List.getElem_replicate, add_plain, Nat.zero_add, hr0.cell hj]
    rfl)
  rw [hl] at this
  exact this
set_option maxRecDepth 8000 in
theorem rzeros_any (w : World) : Calls Try.prog 53 #[] w fun e w' => e = .returned (.string zeros) ∧ Below w.heap.size w w' := by
  obtain ⟨w1, h1, h2, h3⟩ := made_zeros w
  obtain ⟨Z, hZ⟩ : ∃ Z, Z = zeros := ⟨_, rfl⟩
  rw [← hZ] at h3 ⊢
  clear hZ
  go_enter Try.func53, Try.ntmps53
  go_wp2_with fail
  go_ret
  exact ⟨rfl, h2⟩
theorem put_at {w : World} {base : Nat} {t : TypeId} {v : Value} {L : List (Int × ByteArray)} (h : w.ownsRow base t 2 v L.length (wcells L)) {i : Nat} {p : Int × ByteArray} (hx : L[i]? = some p) :
    ∃ g cap, v = .slice (some ⟨g, 0, none⟩) L.length cap ∧ w.cell? ⟨g, i * 2, none⟩ = some (.int .i64 p.1) ∧ w.cell? ⟨g, i * 2 + 1, none⟩ = some (.string p.2) := by
  have hi := (List.getElem?_eq_some_iff.1 hx).1
  have hw := wcells_get L i p hx
  have hl := wcells_len L
  rcases h.2 with ⟨_, h0⟩ | ⟨g, cap, cur, rfl, h1, h2, _⟩
  · omega
  · refine ⟨g, cap, rfl, ?_, ?_⟩
    · rw [h.cellAt (i * 2) (by omega)]; exact hw.1
    · rw [h.cellAt (i * 2 + 1) (by omega)]; exact hw.2
section
variable {w : World} {base rb : Nat} {vl vp vf : Value} {R : RDev}
set_option maxRecDepth 8000 in
set_option maxHeartbeats 2000000 in
theorem rlast_any (h : RAt w base rb vl vp vf R) (n : Int) (hn : 0 ≤ n ∧ n ≤ 65536) (hlen : R.lasts.length ≤ 9223372036854775807) :
    Calls Try.prog 41 #[.pointer (some ⟨rb, 0, none⟩), .int .i64 n] w fun e w' => e = .returned (.string (R.last n)) ∧ Below w.heap.size w w' := by
  have hc1 : w.cell? ⟨rb, 1, none⟩ = some vl := h.cells.cell 1
  obtain ⟨m, rfl⟩ : ∃ m : Nat, n = m := ⟨n.toNat, by omega⟩
  obtain ⟨Z, hZ⟩ : ∃ Z, Z = R.last m := ⟨_, rfl⟩
  rw [← hZ]
  have HZ : Hid (Z = R.last m) := hZ
  clear hZ
  obtain ⟨N, hN⟩ : ∃ N, N = R.lasts.length := ⟨_, rfl⟩
  have HN : Hid (N = R.lasts.length) := hN
  rw [← hN] at hlen
  have hNi : (N : Int) ≤ 9223372036854775807 := by omega
  by_cases hil : m < N
  · have hii : (m : Int) < N := by omega
    obtain ⟨x, hx⟩ : ∃ x, R.lasts[m]? = some x := ⟨_, List.getElem?_eq_getElem (by omega)⟩
    obtain ⟨g, cap, hv, hcx⟩ := row_at (f := fun s => Value.string s) h.lasts (x := x) hx
    rw [← hN] at hv
    subst hv
    have hl : lst R.lasts m = x := by
      unfold lst
      rw [List.getD_eq_getElem?_getD, Int.toNat_natCast, hx]
      rfl
    have HL : Hid (lst R.lasts m = x) := hl
    clear hl hx hN
    by_cases he : x = ⟨#[]⟩
    · have hZ : Z = zeros := by
        rw [HZ.out]; unfold RDev.last; rw [HL.out, he]; rfl
      go_enter Try.func41, Try.ntmps41
      go_wp2_with fail
      refine (rzeros_any _).mono ?_
      rintro e w1 ⟨rfl, hB⟩
      go_wp2_with fail
      go_ret
      exact ⟨by rw [hZ]; rfl, hB⟩
    · have heb : x.toList.isEmpty = false := by
        have hs : x.size ≠ 0 := fun q => he (size_zero q)
        rw [ByteArray.toList_eq, List.isEmpty_eq_false_iff]
        intro q
        apply hs
        show x.data.size = 0
        rw [← Array.length_toList, q]
        rfl
      have hZ : Hid (x = Z) := by
        unfold Hid
        have hs : (lst R.lasts m).size ≠ 0 := by rw [HL.out]; exact fun q => he (size_zero q)
        rw [HZ.out]; unfold RDev.last; rw [if_pos hs, HL.out]
      go_enter Try.func41, Try.ntmps41
      go_wp2_with fail
      go_ret
      exact ⟨by rw [hZ.out]; rfl, Below.refl _ _⟩
  · have hii : ¬ (m : Int) < N := by omega
    obtain ⟨p, cap, hv⟩ := slice_of h.lasts
    rw [← hN] at hv
    subst hv
    have hZ : Z = zeros := by
      rw [HZ.out]; unfold RDev.last lst; rw [List.getD_eq_getElem?_getD, Int.toNat_natCast, List.getElem?_eq_none (by omega)]; rfl
    clear hN
    go_enter Try.func41, Try.ntmps41
    go_wp2_with fail
    refine (rzeros_any _).mono ?_
    rintro e w1 ⟨rfl, hB⟩
    go_wp2_with fail
    go_ret
    exact ⟨by rw [hZ]; rfl, hB⟩
end
/-- What N operations keep. -/
structure RDev.ok (R : RDev) (N : Nat) : Prop where
  left : 0 ≤ R.left ∧ R.left ≤ 9223372036854775807
  since : 0 ≤ R.since ∧ R.since ≤ N
  done : 0 ≤ R.done ∧ R.done ≤ N
  most : 0 ≤ R.most ∧ R.most ≤ 65536
  fails : R.fails.length ≤ 9223372036854775807
  lasts : R.lasts.length ≤ 65536
  puts : R.puts.length ≤ N
  pages : ∀ p ∈ R.puts, (0 ≤ p.1 ∧ p.1 < 65536) ∧ p.2.size = 1024
theorem lastPut_take {L : List (Int × ByteArray)} {i : Nat} {p : Int × ByteArray} (h : L[i]? = some p) (u : Int) : lastPut (L.take (i + 1)) u = if p.1 = u then some p.2 else lastPut (L.take i) u := by
  rw [List.take_add_one, h]
  exact lastPut_app _ _ _
theorem rgoes_last (R : RDev) (n : Int) : R.goes.2.last n = R.last n ∧ R.goes.2.lasts = R.lasts ∧ R.goes.2.puts = R.puts := by
  unfold RDev.goes
  split
  · exact ⟨rfl, rfl, rfl⟩
  · split <;> exact ⟨rfl, rfl, rfl⟩
section
variable {w : World} {base rb : Nat} {vl vp vf : Value} {R : RDev}
set_option maxRecDepth 8000 in
set_option maxHeartbeats 4000000 in
theorem rread_any (h : RAt w base rb vl vp vf R) {N : Nat} (ok : R.ok N) (hN : N < 1000000000) (n : Int) :
    Calls Try.prog 13 #[.pointer (some ⟨rb, 0, none⟩), .int .i64 n] w fun e w' => e = .returned (.tuple #[.string (R.read n).1, .int .i64 (R.read n).2.1]) ∧ RAt w' base rb vl vp vf (R.read n).2.2 ∧ Only rb w w' := by
  have hc3 : w.cell? ⟨rb, 3, none⟩ = some (.bool R.off) := h.cells.cell 3
  have hc0 : w.cell? ⟨rb, 0, none⟩ = some (.int .i64 R.most) := h.cells.cell 0
  obtain ⟨A, hA⟩ : ∃ A, A = R.read n := ⟨_, rfl⟩
  rw [← hA]
  unfold RDev.read RDev.begin at hA
  have HA : Hid _ := hA
  clear hA
  obtain ⟨mo, hmo⟩ : ∃ mo, mo = R.most := ⟨_, rfl⟩
  have hm := ok.most
  rw [← hmo] at hc0 hm
  have HM : Hid (mo = R.most) := hmo
  clear hmo
  cases hof : R.off
  · rw [hof] at hc3
    rw [hof] at HA
    simp only [Bool.false_eq_true, if_false] at HA
    clear hof
    by_cases h0 : n < 0
    · have hA : Hid (A = (⟨#[]⟩, 1, R)) := by
        have : R.has n = false := by unfold RDev.has; rw [decide_eq_false (by omega)]; rfl
        rw [this] at HA
        exact HA.out
      go_enter Try.func13, Try.ntmps13
      go_wp2_with fail
      go_ret2
      rw [hA.out]
      exact ⟨rfl, h, Only.refl _ _⟩
    · by_cases h1 : mo ≤ n
      · have hA : Hid (A = (⟨#[]⟩, 1, R)) := by
          have : R.has n = false := by unfold RDev.has; rw [← HM.out, decide_eq_false (p := n < mo) (by omega), Bool.and_false]
          rw [this] at HA
          exact HA.out
        go_enter Try.func13, Try.ntmps13
        go_wp2_with fail
        go_ret2
        rw [hA.out]
        exact ⟨rfl, h, Only.refl _ _⟩
      · have hhas : R.has n = true := by unfold RDev.has; rw [← HM.out, decide_eq_true (p := n < mo) (by omega), decide_eq_true (p := 0 ≤ n) (by omega)]; rfl
        rw [hhas] at HA
        simp only [if_true] at HA
        clear hhas
        have hg := goes_any h ok.left (by have := ok.since; omega) (by have := ok.done; omega) ok.fails
        have hlg := rgoes_last R n
        obtain ⟨e0, he0⟩ : ∃ e0, e0 = R.goes.1 := ⟨_, rfl⟩
        rw [← he0] at hg
        have HE : Hid (e0 = R.goes.1) := he0
        have HG : Hid (R.goes.2.last n = R.last n ∧ R.goes.2.lasts = R.lasts ∧ R.goes.2.puts = R.puts) := hlg
        have HO : Hid (R.ok N) := ok
        clear he0 hlg ok
        by_cases hz : e0 = 0
        · subst hz
          have hA : Hid (A = (R.text n, 0, R.goes.2)) := by
            unfold Hid
            rw [HA.out, ← HE.out]
            exact if_pos rfl
          clear HA
          go_enter Try.func13, Try.ntmps13
          go_wp2_with fail
          refine hg.mono ?_
          rintro e w1 ⟨rfl, h1', hO1⟩
          clear hg hc3 hc0
          go_wp2_with fail
          refine (rlast_any h1' n (by omega) (by rw [HG.out.2.1]; have := HO.out.lasts; omega)).mono ?_
          rintro e w2 ⟨rfl, hB2⟩
          have F0 : Hid (RAt w2 base rb vl vp vf R.goes.2 ∧ Only rb w w2) := ⟨h1'.below hB2, hO1.below hB2⟩
          rw [HG.out.1]
          clear h1' hO1 hB2
          go_wp2_with fail
          go_loopw [7, 8] (fun y z wr => ∃ i : Nat, z = .int .i64 (i : Nat) ∧ i ≤ R.puts.length ∧ y = .string ((lastPut (R.puts.take i) n).getD (R.last n)) ∧ RAt wr base rb vl vp vf R.goes.2 ∧ Only rb w wr) (fun _ z _ => R.puts.length - (intOf z).toNat)
          case atStart => exact ⟨0, rfl, Nat.zero_le _, rfl, F0.out.1, F0.out.2⟩
          case round =>
            clear F0
            obtain ⟨i, rfl, hi, rfl, hR, hO⟩ := hrel
            have c2 : wr.cell? ⟨rb, 2, none⟩ = some vp := hR.cells.cell 2
            have HF : Hid (RAt wr base rb vl vp vf R.goes.2 ∧ Only rb w wr) := ⟨hR, hO⟩
            obtain ⟨M, hM⟩ : ∃ M, M = R.puts.length := ⟨_, rfl⟩
            have hMb := HO.out.puts
            rw [← hM] at hi hMb
            have hMi : (M : Int) ≤ 1000000000 := by omega
            have hrow := hR.puts
            rw [HG.out.2.2] at hrow
            by_cases hil : i < M
            · have hii : (i : Int) < M := by omega
              obtain ⟨p, hx⟩ : ∃ p, R.puts[i]? = some p := ⟨_, List.getElem?_eq_getElem (by omega)⟩
              obtain ⟨gp, cap, hvp, hcx, hcy⟩ := put_at hrow hx
              rw [← hM] at hvp
              have HN : Hid (M = R.puts.length) := hM
              have HX : Hid (∀ u, lastPut (R.puts.take (i + 1)) u = if p.1 = u then some p.2 else lastPut (R.puts.take i) u) := fun u => lastPut_take hx u
              subst hvp
              clear hR hO hM hx hrow
              by_cases he : p.1 = n
              · have heb : (p.1 == n) = true := by rw [he]; exact beq_self_eq_true _
                go_wp2_with fail
                refine ⟨⟨i + 1, by go_num, by have := HN.out; omega, ?_, HF.out⟩, by simp [intOf]; have := HN.out; omega⟩
                rw [HX.out n, if_pos he]
                rfl
              · have heb : (p.1 == n) = false := beq_eq_false_iff_ne.2 he
                go_wp2_with fail
                refine ⟨⟨i + 1, by go_num, by have := HN.out; omega, ?_, HF.out⟩, by simp [intOf]; have := HN.out; omega⟩
                rw [HX.out n, if_neg he]
            · have hii : ¬ (i : Int) < M := by omega
              obtain ⟨pf, cap, hvp⟩ := slice_of hrow
              rw [← hM] at hvp
              have HV : Hid (vp = .slice pf M cap) := hvp
              rw [hvp] at c2
              have hti : Hid (R.puts.take i = R.puts) := List.take_of_length_le (by omega)
              rw [hti.out]
              clear hvp hM hR hO hrow
              go_wp2_with fail
              go_ret2
              rw [hA.out]
              exact ⟨rfl, HF.out⟩
        · have hzb : (e0 == 0) = false := beq_eq_false_iff_ne.2 hz
          have hA : Hid (A = (⟨#[]⟩, e0, R.goes.2)) := by
            unfold Hid
            rw [HA.out, if_neg (by rw [← HE.out]; exact hz), HE.out]
          clear HA
          go_enter Try.func13, Try.ntmps13
          go_wp2_with fail
          refine hg.mono ?_
          rintro e w1 ⟨rfl, h1', hO1⟩
          go_wp2_with fail
          go_ret2
          rw [hA.out]
          exact ⟨rfl, h1', hO1⟩
  · rw [hof] at hc3
    rw [hof] at HA
    have hA : Hid (A = (⟨#[]⟩, 15, R)) := HA.out
    go_enter Try.func13, Try.ntmps13
    go_wp2_with fail
    go_ret2
    rw [hA.out]
    exact ⟨rfl, h, Only.refl _ _⟩
end
end Go.Proofs.Ytonmjkalkkfhhaa
