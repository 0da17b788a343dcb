/-
  asked: the answers from a number on are those of the list.
-/
import Derived.Test.YtbenfmhcpipehaaBAskP
import Derived.Test.YtbenfmhcpipehaaBGB
import Derived.Deep.DeepMust
namespace Go.Proofs.Ytbenfmhcpipehaa
open Go Go.RowKit Go.Maps

theorem capI {w : World} {base : Nat} {p : Option Addr} {c : Nat} {L : List Nat} (h : OwnInts w base (.slice p L.length c) L) : L.length ≤ c := by
  rcases h.2 with ⟨e, h0⟩ | ⟨g, cap', cur, e, _, _, h1, _⟩
  · omega
  · injection e with _ _ e3
    omega
set_option maxRecDepth 100000 in
set_option maxHeartbeats 4000000 in
theorem asked_nil {w : World} {s : Value} {mo : Option Nat} {M : Nat → Bool} (h : View w s mo M) {p : Option Addr} {n c : Nat} (hia : IntsAt w (.slice p n c) ((memFrom M 0).map fun x : Nat => (x : Int))) (hln : (memFrom M 0).length ≤ 100000) (f : Int) (hf : -9223372036854775808 ≤ f ∧ f ≤ 9223372036854775807) (hL0 : memFrom M 0 = []) (h3 : (memFrom M f.toNat).length ≤ 3) :
    Calls Try.prog 15 #[s, .slice p n c, .int .i64 f] w fun e w' => e = .returned (.bool true) ∧ Below w.heap.size w w' := by
  have hM := h.map.bound
  have hmx : max f 0 = (f.toNat : Int) := by omega
  have hfm : f.toNat ≤ 9223372036854775807 := by omega
  have hlen : (memFrom M 0).length = n := by have := hia.len; simpa using this
  have hls := least_any h f f.toNat hmx hfm
  have hFl : (memFrom M f.toNat).length ≤ 100000 := by rw [← from_eq hM f]; exact Nat.le_trans (List.length_filter_le _ _) hln
  have HQL : Hid (∀ W, Below w.heap.size w W → ∀ (n' : Nat) b, LeastOf M f.toNat n' b → Calls Try.prog 48 #[.slice p n c, .int .i64 f] W fun e w' => e = .returned (.tuple #[.int .i64 (n' : Nat), .bool b]) ∧ Below W.heap.size W w') := fun W hB n' b hl => by
    have := qleast_any (hia.below hB) (by omega) f
    rw [from_eq hM, least_first hM hl] at this
    exact this
  have HQF : Hid (∀ W, Below w.heap.size w W → Calls Try.prog 50 #[.slice p n c, .int .i64 f] W fun e w' => ∃ v, e = .returned v ∧ OwnInts w' W.heap.size v (memFrom M f.toNat) ∧ Below W.heap.size W w') := fun W hB => by
    have := qfrom_any (hia.below hB) (by omega) f
    rw [from_eq hM] at this
    exact this
  have HQH : Hid (∀ W, Below w.heap.size w W → Calls Try.prog 47 #[.slice p n c, .int .i64 f] W fun e w' => e = .returned (.bool (hasI M f)) ∧ Below W.heap.size W w') := fun W hB => by
    have := qhas_any (hia.below hB) (by omega) f
    rw [has_mem hM] at this
    exact this
  have HHS : Hid (∀ W, Below w.heap.size w W → Calls Try.prog 40 #[s, .int .i64 f] W fun e w' => e = .returned (.bool (hasI M f)) ∧ Below W.heap.size W w') := fun W hB => has5_any (h.below hB) f hf.2
  have HEA : Hid (∀ W, Below w.heap.size w W → ∀ q : Nat, 1 ≤ q → q ≤ 1000000 → Calls Try.prog 51 #[s, .int .i64 f, .int .i64 (q : Nat)] W fun e w' => ∃ v, e = .returned v ∧ OwnInts w' W.heap.size v ((memFrom M f.toNat).take q) ∧ Below W.heap.size W w') := fun W hB q h1 h2 => leach_any (h.below hB) f hf.2 q h1 h2
  have HGR : Hid (∀ W, Below w.heap.size w W → Calls Try.prog 49 #[s] W fun e w' => e = .returned (.tuple #[.int .i64 0, .bool false]) ∧ Below W.heap.size W w') := fun W hB => by
    refine (great_any (h.below hB)).mono ?_
    rintro e w' ⟨g, ok, rfl, hg, hB'⟩
    rcases great_last hM hg with ⟨_, rfl, rfl⟩ | ⟨_, h1, _⟩
    · exact ⟨rfl, hB'⟩
    · rw [hL0] at h1; cases h1
  generalize hF : memFrom M f.toNat = F at hFl HQF HEA h3
  clear hF
  have hn0 : n = 0 := by rw [← hlen, hL0]; rfl
  subst hn0
  have h3d : decide ((3 : Int) < F.length) = false := decide_eq_false (by omega)
  generalize hasI M f = hb at HQH HHS
  clear hM hia hmx hln
  go_enter Try.func15, Try.ntmps15
  go_wp2_with (first
    | (go_at_call 39; refine hls.mono ?_; rintro e w1 ⟨n', b, rfl, hlo, hB1⟩; clear hls; have hql := HQL.out w1 hB1 n' b hlo; clear hlo HQL)
    | (go_at_call 48; refine hql.mono ?_; rintro e w2 ⟨rfl, hB2⟩; clear hql; have hBw2 := below_new hB1 hB2; have hgr := HGR.out w2 hBw2)
    | (go_at_call 49; refine hgr.mono ?_; rintro e w3 ⟨rfl, hB3⟩; clear hgr; have hBw3 := below_new hBw2 hB3; have hqf := HQF.out w3 hBw3)
    | (go_at_call 50; refine hqf.mono ?_; rintro e w4 ⟨v4, rfl, hown4, hB4⟩; clear hqf; have hBw4 := below_new hBw3 hB4; obtain ⟨p4, c4, rfl, hi4⟩ := hown4.intsAt; have hcp4 : F.length ≤ c4 := capI hown4; have hea := HEA.out w4 hBw4 (F.length + 1) (by omega) (by omega); rw [List.take_of_length_le (by omega)] at hea)
    | (go_at_call 51; refine hea.mono ?_; rintro e w5 ⟨v5, rfl, hown5, hB5⟩; clear hea; have hBw5 := below_new hBw4 hB5; obtain ⟨p5, c5, rfl, hi5⟩ := hown5.intsAt; have hi45 := hi4.below hB5; have hsm := same_any hi5 hi45 (by omega) (by omega); rw [decide_eq_true rfl] at hsm)
    | (go_at_call 18; refine hsm.mono ?_; rintro e w6 ⟨rfl, hB6⟩; clear hsm; have hBw6 := below_new hBw5 hB6; have hi46 := hi45.below hB6; have hea3 := HEA.out w6 hBw6 3 (by omega) (by omega); have hhs := HHS.out w6 hBw6)
    | (go_at_call 40; refine hhs.mono ?_; rintro e w7 ⟨rfl, hB7⟩; clear hhs; have hBw7 := below_new hBw6 hB7; have hqh := HQH.out w7 hBw7)
    | (go_at_call 47; refine hqh.mono ?_; rintro e w8 ⟨rfl, hB8⟩; clear hqh))
  go_ret
  exact ⟨by simp, below_new hBw7 hB8⟩
set_option maxRecDepth 100000 in
set_option maxHeartbeats 4000000 in
theorem asked_few {w : World} {s : Value} {mo : Option Nat} {M : Nat → Bool} (h : View w s mo M) {p : Option Addr} {n c : Nat} (hia : IntsAt w (.slice p n c) ((memFrom M 0).map fun x : Nat => (x : Int))) (hln : (memFrom M 0).length ≤ 100000) (f : Int) (hf : -9223372036854775808 ≤ f ∧ f ≤ 9223372036854775807) (hL0 : 0 < (memFrom M 0).length) (h3 : (memFrom M f.toNat).length ≤ 3) :
    Calls Try.prog 15 #[s, .slice p n c, .int .i64 f] w fun e w' => e = .returned (.bool true) ∧ Below w.heap.size w w' := by
  have hM := h.map.bound
  have hmx : max f 0 = (f.toNat : Int) := by omega
  have hfm : f.toNat ≤ 9223372036854775807 := by omega
  have hlen : (memFrom M 0).length = n := by have := hia.len; simpa using this
  have hls := least_any h f f.toNat hmx hfm
  have hFl : (memFrom M f.toNat).length ≤ 100000 := by rw [← from_eq hM f]; exact Nat.le_trans (List.length_filter_le _ _) hln
  have HQL : Hid (∀ W, Below w.heap.size w W → ∀ (n' : Nat) b, LeastOf M f.toNat n' b → Calls Try.prog 48 #[.slice p n c, .int .i64 f] W fun e w' => e = .returned (.tuple #[.int .i64 (n' : Nat), .bool b]) ∧ Below W.heap.size W w') := fun W hB n' b hl => by
    have := qleast_any (hia.below hB) (by omega) f
    rw [from_eq hM, least_first hM hl] at this
    exact this
  have HQF : Hid (∀ W, Below w.heap.size w W → Calls Try.prog 50 #[.slice p n c, .int .i64 f] W fun e w' => ∃ v, e = .returned v ∧ OwnInts w' W.heap.size v (memFrom M f.toNat) ∧ Below W.heap.size W w') := fun W hB => by
    have := qfrom_any (hia.below hB) (by omega) f
    rw [from_eq hM] at this
    exact this
  have HQH : Hid (∀ W, Below w.heap.size w W → Calls Try.prog 47 #[.slice p n c, .int .i64 f] W fun e w' => e = .returned (.bool (hasI M f)) ∧ Below W.heap.size W w') := fun W hB => by
    have := qhas_any (hia.below hB) (by omega) f
    rw [has_mem hM] at this
    exact this
  have HHS : Hid (∀ W, Below w.heap.size w W → Calls Try.prog 40 #[s, .int .i64 f] W fun e w' => e = .returned (.bool (hasI M f)) ∧ Below W.heap.size W w') := fun W hB => has5_any (h.below hB) f hf.2
  have HEA : Hid (∀ W, Below w.heap.size w W → ∀ q : Nat, 1 ≤ q → q ≤ 1000000 → Calls Try.prog 51 #[s, .int .i64 f, .int .i64 (q : Nat)] W fun e w' => ∃ v, e = .returned v ∧ OwnInts w' W.heap.size v ((memFrom M f.toNat).take q) ∧ Below W.heap.size W w') := fun W hB q h1 h2 => leach_any (h.below hB) f hf.2 q h1 h2
  obtain ⟨gl, hgl⟩ : ∃ g, (memFrom M 0)[(memFrom M 0).length - 1]? = some g := ⟨_, List.getElem?_eq_getElem (by omega)⟩
  have HGR : Hid (∀ W, Below w.heap.size w W → Calls Try.prog 49 #[s] W fun e w' => e = .returned (.tuple #[.int .i64 (gl : Nat), .bool true]) ∧ Below W.heap.size W w') := fun W hB => by
    refine (great_any (h.below hB)).mono ?_
    rintro e w' ⟨g, ok, rfl, hg, hB'⟩
    rcases great_last hM hg with ⟨h1, _⟩ | ⟨rfl, _, h1⟩
    · rw [h1] at hL0; simp at hL0
    · rw [hgl] at h1
      injection h1 with h1
      subst h1
      exact ⟨rfl, hB'⟩
  obtain ⟨gp, go, rfl, hcell⟩ := hia.nat hL0
  have HCL : Hid (∀ W, Below w.heap.size w W → W.cell? ⟨gp, go + (n - 1), none⟩ = some (.int .i64 (gl : Nat))) := fun W hB => by
    rw [← hlen]; exact hcell W hB _ gl hgl
  clear hcell
  generalize hF : memFrom M f.toNat = F at hFl HQF HEA h3
  clear hF
  have hn1 : (0 : Int) < n := by omega
  have hni : (n : Int) ≤ 100000 := by omega
  obtain ⟨n1, hn1e⟩ : ∃ k, n - 1 = k := ⟨_, rfl⟩
  have hsub : IntKind.i64.wrap ((n : Int) - 1) = (n1 : Int) := by rw [IntKind.wrap_i64]; omega
  have hsub2 : (n : Int) - 1 = (n1 : Int) := by omega
  have hn10 : (0 : Int) ≤ n1 := by omega
  have hn1n : (n1 : Int) < n := by omega
  rw [hn1e] at HCL
  clear hn1e hL0 hgl hlen
  have h3d : decide ((3 : Int) < F.length) = false := decide_eq_false (by omega)
  generalize hasI M f = hb at HQH HHS
  clear hM hia hmx hln
  go_enter Try.func15, Try.ntmps15
  go_wp2_with (first
    | (go_at_call 39; refine hls.mono ?_; rintro e w1 ⟨n', b, rfl, hlo, hB1⟩; clear hls; have hql := HQL.out w1 hB1 n' b hlo; clear hlo HQL)
    | (go_at_call 48; refine hql.mono ?_; rintro e w2 ⟨rfl, hB2⟩; clear hql; have hBw2 := below_new hB1 hB2; have hgr := HGR.out w2 hBw2)
    | (go_at_call 49; refine hgr.mono ?_; rintro e w3 ⟨rfl, hB3⟩; clear hgr; have hBw3 := below_new hBw2 hB3; have hcl3 := HCL.out w3 hBw3; have hqf := HQF.out w3 hBw3)
    | (go_at_call 50; refine hqf.mono ?_; rintro e w4 ⟨v4, rfl, hown4, hB4⟩; clear hqf; have hBw4 := below_new hBw3 hB4; obtain ⟨p4, c4, rfl, hi4⟩ := hown4.intsAt; have hcp4 : F.length ≤ c4 := capI hown4; have hea := HEA.out w4 hBw4 (F.length + 1) (by omega) (by omega); rw [List.take_of_length_le (by omega)] at hea)
    | (go_at_call 51; refine hea.mono ?_; rintro e w5 ⟨v5, rfl, hown5, hB5⟩; clear hea; have hBw5 := below_new hBw4 hB5; obtain ⟨p5, c5, rfl, hi5⟩ := hown5.intsAt; have hi45 := hi4.below hB5; have hsm := same_any hi5 hi45 (by omega) (by omega); rw [decide_eq_true rfl] at hsm)
    | (go_at_call 18; refine hsm.mono ?_; rintro e w6 ⟨rfl, hB6⟩; clear hsm; have hBw6 := below_new hBw5 hB6; have hi46 := hi45.below hB6; have hea3 := HEA.out w6 hBw6 3 (by omega) (by omega); have hhs := HHS.out w6 hBw6)
    | (go_at_call 40; refine hhs.mono ?_; rintro e w7 ⟨rfl, hB7⟩; clear hhs; have hBw7 := below_new hBw6 hB7; have hqh := HQH.out w7 hBw7)
    | (go_at_call 47; refine hqh.mono ?_; rintro e w8 ⟨rfl, hB8⟩; clear hqh))
  go_ret
  exact ⟨by simp, below_new hBw7 hB8⟩
end Go.Proofs.Ytbenfmhcpipehaa
