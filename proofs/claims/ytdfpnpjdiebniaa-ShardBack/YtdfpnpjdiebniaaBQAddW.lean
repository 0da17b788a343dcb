/-
  The document's Add.
-/
import Derived.Test.YtdfpnpjdiebniaaBQLeastW
namespace Go.Proofs.Ytdfpnpjdiebniaa
open Go Go.RowKit Go.Maps

/-- With one more, in its place. -/
def insL (L : List Nat) (m k : Nat) : List Nat := L.take k ++ [m] ++ L.drop k
theorem OwnInts.zero {w : World} {base : Nat} {v : Value} {L : List Nat} (h : OwnInts w base v L) : OwnInts w 0 v L :=
  ⟨h.1, h.2.imp id fun ⟨g, cap, cur, h1, _, h3⟩ => ⟨g, cap, cur, h1, Nat.zero_le _, h3⟩⟩
theorem OwnInts.shape {w : World} {base : Nat} {v : Value} {L : List Nat} (h : OwnInts w base v L) : (v = .slice none 0 0 ∧ L = []) ∨ ∃ g cap, v = .slice (some ⟨g, 0, none⟩) L.length cap ∧ L.length ≤ cap ∧ cap ≤ maxLen ∧ g < w.heap.size ∧ ∀ W, Below w.heap.size w W → ∀ j x, L[j]? = some x → W.cell? ⟨g, j, none⟩ = some (.int .i64 (x : Nat)) := by
  have hc := h
  rcases h.2 with ⟨e, h0⟩ | ⟨g, cap, cur, e, hb, hg, h1, h2, _⟩
  · exact .inl ⟨e, List.eq_nil_of_length_eq_zero h0⟩
  · refine .inr ⟨g, cap, e, h1, h2, (Array.getElem?_eq_some_iff.1 hg).1, fun W hB j x hx => ?_⟩
    subst e
    have e := hc.cells (g := g) rfl j (.int .i64 (x : Nat)) (by rw [List.getElem?_map, hx]; rfl)
    rw [Addr.add_mid, Nat.zero_add] at e
    exact (hB.cell (p := ⟨g, j, none⟩) (World.block_lt_of_cell? _ _ e)).trans e
theorem cap_of {w : World} {base g n cap : Nat} {e : TypeId} {size : Nat} {xs : List Value} (h : w.ownsRow base e size (.slice (some ⟨g, 0, none⟩) n cap) n xs) : n ≤ cap := by
  rcases h.2 with ⟨e, _⟩ | ⟨g, cap', cur, e, _, _, h1, _⟩
  · cases e
  · injection e with _ _ e3
    omega
/-- So many stand below. -/
def Place (L : List Nat) (m k : Nat) : Prop := k ≤ L.length ∧ (∀ x ∈ L.take k, x < m) ∧ ∀ z, L[k]? = some z → m ≤ z

set_option maxRecDepth 100000 in
set_option maxHeartbeats 2000000 in
theorem qadd_yes {w : World} {v : Value} {L : List Nat} (hv : OwnInts w 0 v L) (hln : L.length ≤ 1000000) (m : Nat) (hm : m < 2147483648) (hno : m ∉ L) :
    Calls Try.prog 35 #[v, .int .i64 (m : Nat)] w fun e w' => ∃ v' k, e = .returned (.tuple #[v', .bool true]) ∧ OwnInts w' 0 v' (insL L m k) ∧ Place L m k ∧ Below w.heap.size w w' := by
  obtain ⟨i3, hi, hz0, hz1, hz2⟩ := info_parts info3
  have hmi : (m : Int) ≤ 2147483647 := by omega
  have hm0 : (0 : Int) ≤ m := by omega
  have hd1 : decide ((m : Int) < 0) = false := decide_eq_false (by omega)
  have hd2 : decide ((2147483647 : Int) < m) = false := decide_eq_false (by omega)
  have hnd : decide ((m : Int) ∈ L.map fun x : Nat => (x : Int)) = false := decide_eq_false fun h => by
    obtain ⟨x, hx, e⟩ := List.mem_map.1 h
    exact hno (by rw [← show x = m by omega]; exact hx)
  obtain ⟨p0, c0, e0, hia⟩ := hv.intsAt
  have hqh := qhas_any hia hln (m : Int)
  rw [hnd] at hqh
  clear hnd
  rcases hv.shape with ⟨rfl, rfl⟩ | ⟨g, cap, rfl, hlc, hcm, hgl, hcell⟩
  · injection e0 with e1 e2 e3
    subst e1 e3
    clear e2 hia hv
    simp only [List.length_nil] at hqh
    have hnil : OwnInts w 0 (.slice none 0 0) [] := World.ownsRow_nil _ _ _ _
    go_enter Try.func35, Try.ntmps35
    go_wp2_with (first
      | (go_at_call 59; refine hqh.mono ?_; rintro e w1 ⟨rfl, hB1⟩; clear hqh))
    go_loopw [8] (fun y wr => y = .int .i64 0 ∧ wr = w1) (fun _ _ => 0)
    case atStart => exact ⟨rfl, rfl⟩
    case round =>
      obtain ⟨rfl, rfl⟩ := hrel
      go_wp2_with (first
        | (at_builtin; refine wpList_append_own _ rfl _ _ 22 rfl 0 3 i3 (.int .i64 0) 1 8 underInts hi hz0 hz1 hz2 rfl (by decide) _ _ _ rfl ((World.ownsRow_nil wr 0 3 1).alloc _) ⟨wr.heap.size, 0, none⟩ 1 1 [.int .i64 (m : Nat)] rfl rfl (cells_new _ _ _) (by simp [Value.oneCell']) (by unfold maxLen; omega) (by omega) (Nat.zero_le _) ?_; intro v6 w6 hown6 hgrow6 hnil6; obtain ⟨g6, cap6, rfl⟩ := ownsRow_succ (k := 0) hown6; have hcp6 : 0 + 1 ≤ cap6 := cap_of hown6; have hcp6i : ((0 + 1 : Nat) : Int) ≤ cap6 := (by omega)))
      go_ret2
      exact ⟨_, 0, rfl, hown6, ⟨Nat.le_refl _, by simp, by simp⟩, (hB1.alloc (by have := hB1.size; omega) _).grown hgrow6 (by have := hB1.size; simp; omega) (fun k e => by cases e)⟩
  · injection e0 with e1 e2 e3
    subst e1 e3
    clear e2
    go_enter Try.func35, Try.ntmps35
    go_wp2_with (first
      | (go_at_call 59; refine hqh.mono ?_; rintro e w1 ⟨rfl, hB1⟩; clear hqh))
    go_loopw [8] (fun y wr => ∃ k : Nat, y = .int .i64 (k : Nat) ∧ k ≤ L.length ∧ (∀ x ∈ L.take k, x < m) ∧ wr = w1) (fun y _ => L.length - (intOf y).toNat)
    case atStart => exact ⟨0, rfl, Nat.zero_le _, by simp, rfl⟩
    case round =>
      obtain ⟨k, rfl, hkl0, hpre, rfl⟩ := hrel
      by_cases hk : k < L.length
      · have hki : (k : Int) < L.length := by omega
        have hk0 : (0 : Int) ≤ k := by omega
        obtain ⟨x, hx⟩ : ∃ x, L[k]? = some x := ⟨_, List.getElem?_eq_getElem hk⟩
        have hc := hcell wr hB1 k x hx
        by_cases hxm : x < m
        · have hxi : (x : Int) < m := by omega
          have HP : Hid (∀ y ∈ L.take (k + 1), y < m) := (by
            intro y hy
            rw [take_snoc hx, List.mem_append] at hy
            rcases hy with hy | hy
            · exact hpre y hy
            · rw [List.mem_singleton.1 hy]; exact hxm)
          have hj1 : k + 1 ≤ L.length := hk
          have hjm : L.length - (k + 1) < L.length - k := by omega
          clear hcell hx hpre
          go_wp2_with fail
          exact ⟨⟨k + 1, by simp, hj1, HP.out, by first | rfl | trivial⟩, by rw [toNat_succ, toNat_self]; exact hjm⟩
        · have hxi : decide ((x : Int) < m) = false := decide_eq_false (by omega)
          have HPL : Hid (Place L m k) := ⟨hkl0, hpre, fun z hz => by rw [hx] at hz; injection hz with hz; omega⟩
          clear hx hpre
          obtain ⟨tk, htk⟩ : ∃ l, L.take k = l := ⟨_, rfl⟩
          obtain ⟨dk, hdk⟩ : ∃ l, L.drop k = l := ⟨_, rfl⟩
          have htl : tk.length = k := by rw [← htk, List.length_take]; omega
          have hdl : dk.length = L.length - k := by rw [← hdk, List.length_drop]
          have HT : Hid (L.take k = tk) := htk
          have HDK : Hid (L.drop k = dk) := hdk
          have hcT : ∀ W, Below wr.heap.size wr W → ∀ j v, (tk.map fun x : Nat => Value.int .i64 (x : Int))[j]? = some v → W.cell? ((⟨g, 0, none⟩ : Addr).add j) = some v := fun W hB j v hj => by
            rw [List.getElem?_map] at hj
            cases hx : tk[j]? with
            | none => rw [hx] at hj; cases hj
            | some x =>
              rw [hx] at hj
              injection hj with hj
              subst hj
              rw [add_plain, Nat.zero_add]
              have hjl := (List.getElem?_eq_some_iff.1 hx).1
              refine hcell W (hB1.trans (hB.mono hB1.size)) j x ?_
              rw [← htk, List.getElem?_take_of_lt (by omega)] at hx
              exact hx
          have hcD : ∀ W, Below wr.heap.size wr W → ∀ j v, (dk.map fun x : Nat => Value.int .i64 (x : Int))[j]? = some v → W.cell? ((⟨g, k, none⟩ : Addr).add j) = some v := fun W hB j v hj => by
            rw [List.getElem?_map] at hj
            cases hx : dk[j]? with
            | none => rw [hx] at hj; cases hj
            | some x =>
              rw [hx] at hj
              injection hj with hj
              subst hj
              rw [add_plain]
              refine hcell W (hB1.trans (hB.mono hB1.size)) (k + j) x ?_
              rw [← hdk, List.getElem?_drop] at hx
              exact hx
          have HCT : Hid _ := hcT
          have HCD : Hid _ := hcD
          have hT0 := hcT wr (Below.refl _ _)
          have hkc : (k : Int) ≤ cap := by omega
          have hkl : (k : Int) ≤ L.length := by omega
          have hcmi : (cap : Int) ≤ 9223372036854775807 := by unfold maxLen at hcm; omega
          clear hcT hcD hcell htk hdk hia
          have hsz1 := hB1.size
          have htm : tk.length ≤ 1000000 := by omega
          have hdm : dk.length ≤ 1000000 := by omega
          go_wp2_with (first
            | (at_builtin; refine wpList_append_own _ rfl _ _ 22 rfl wr.heap.size 3 i3 (.int .i64 0) 1 8 underInts hi hz0 hz1 hz2 rfl (by decide) _ _ _ rfl (World.ownsRow_nil wr wr.heap.size 3 1) ⟨g, 0, none⟩ k cap (tk.map fun x : Nat => Value.int .i64 (x : Int)) rfl (by simp [htl]) hT0 (by intro u hu; obtain ⟨y, _, rfl⟩ := List.mem_map.1 hu; rfl) (by unfold maxLen; omega) (by omega) (Nat.le_refl _) ?_; intro v7 w7 hown7 hgrow7 hnil7; clear hT0 hnil7; have hD7 : Below wr.heap.size wr w7 := (Below.refl _ wr).grown hgrow7 (Nat.le_refl _) (fun k e => (by cases e)); have hsz7 := hD7.size)
            | (at_builtin; refine wpList_append_own _ rfl _ _ 22 rfl wr.heap.size 3 i3 (.int .i64 0) 1 8 underInts hi hz0 hz1 hz2 rfl (by decide) _ _ _ rfl (hown7.alloc _) ⟨w7.heap.size, 0, none⟩ 1 1 [.int .i64 (m : Nat)] rfl rfl (cells_new _ _ _) (by simp [Value.oneCell']) (by unfold maxLen; omega) (by omega) (by simp; omega) ?_; intro v8 w8 hown8 hgrow8 hnil8; clear hnil8; have hD8 : Below wr.heap.size wr w8 := (hD7.alloc hsz7 _).grown hgrow8 (by simp; omega) (fun k e => (hown7.lt k e).1); clear hown7; have hsz8 := hD8.size; have hcD8 := HCD.out w8 hD8)
            | (at_builtin; refine wpList_append_own _ rfl _ _ 22 rfl wr.heap.size 3 i3 (.int .i64 0) 1 8 underInts hi hz0 hz1 hz2 rfl (by decide) _ _ _ rfl hown8 ⟨g, k, none⟩ (L.length - k) (cap - k) (dk.map fun x : Nat => Value.int .i64 (x : Int)) rfl (by simp [hdl]) hcD8 (by intro u hu; obtain ⟨y, _, rfl⟩ := List.mem_map.1 hu; rfl) (by unfold maxLen; omega) (by omega) hsz8 ?_; intro v9 w9 hown9 hgrow9 hnil9; clear hnil9; have hD9 : Below wr.heap.size wr w9 := hD8.grown hgrow9 hsz8 (fun k e => (hown8.lt k e).1)))
          go_ret2
          refine ⟨_, k, rfl, ?_, HPL.out, hB1.trans (hD9.mono hB1.size)⟩
          unfold insL
          rw [HT.out, HDK.out]
          have e9 : OwnInts w9 wr.heap.size v9 (tk ++ [m] ++ dk) := by
            unfold OwnInts
            rw [List.map_append, List.map_append, List.length_append, List.length_append, htl, hdl]
            simpa using hown9
          exact e9.zero
      · have hki : decide ((k : Int) < L.length) = false := decide_eq_false (by omega)
        have hk0 : (0 : Int) ≤ k := by omega
        have HPL : Hid (Place L m k) := ⟨hkl0, hpre, fun z hz => absurd (List.getElem?_eq_some_iff.1 hz).1 (by omega)⟩
        clear hpre
        obtain ⟨tk, htk⟩ : ∃ l, L.take k = l := ⟨_, rfl⟩
        obtain ⟨dk, hdk⟩ : ∃ l, L.drop k = l := ⟨_, rfl⟩
        have htl : tk.length = k := by rw [← htk, List.length_take]; omega
        have hdl : dk.length = L.length - k := by rw [← hdk, List.length_drop]
        have HT : Hid (L.take k = tk) := htk
        have HDK : Hid (L.drop k = dk) := hdk
        have hcT : ∀ W, Below wr.heap.size wr W → ∀ j v, (tk.map fun x : Nat => Value.int .i64 (x : Int))[j]? = some v → W.cell? ((⟨g, 0, none⟩ : Addr).add j) = some v := fun W hB j v hj => by
          rw [List.getElem?_map] at hj
          cases hx : tk[j]? with
          | none => rw [hx] at hj; cases hj
          | some x =>
            rw [hx] at hj
            injection hj with hj
            subst hj
            rw [add_plain, Nat.zero_add]
            have hjl := (List.getElem?_eq_some_iff.1 hx).1
            refine hcell W (hB1.trans (hB.mono hB1.size)) j x ?_
            rw [← htk, List.getElem?_take_of_lt (by omega)] at hx
            exact hx
        have hcD : ∀ W, Below wr.heap.size wr W → ∀ j v, (dk.map fun x : Nat => Value.int .i64 (x : Int))[j]? = some v → W.cell? ((⟨g, k, none⟩ : Addr).add j) = some v := fun W hB j v hj => by
          rw [List.getElem?_map] at hj
          cases hx : dk[j]? with
          | none => rw [hx] at hj; cases hj
          | some x =>
            rw [hx] at hj
            injection hj with hj
            subst hj
            rw [add_plain]
            refine hcell W (hB1.trans (hB.mono hB1.size)) (k + j) x ?_
            rw [← hdk, List.getElem?_drop] at hx
            exact hx
        have HCT : Hid _ := hcT
        have HCD : Hid _ := hcD
        have hT0 := hcT wr (Below.refl _ _)
        have hkc : (k : Int) ≤ cap := by omega
        have hkl : (k : Int) ≤ L.length := by omega
        have hcmi : (cap : Int) ≤ 9223372036854775807 := by unfold maxLen at hcm; omega
        clear hcT hcD hcell htk hdk hia
        have hsz1 := hB1.size
        have htm : tk.length ≤ 1000000 := by omega
        have hdm : dk.length ≤ 1000000 := by omega
        by_cases hck : cap = k
        · obtain rfl : k = cap := hck.symm
          clear hck
          go_wp2_with (first
            | (at_builtin; refine wpList_append_own _ rfl _ _ 22 rfl wr.heap.size 3 i3 (.int .i64 0) 1 8 underInts hi hz0 hz1 hz2 rfl (by decide) _ _ _ rfl (World.ownsRow_nil wr wr.heap.size 3 1) ⟨g, 0, none⟩ k k (tk.map fun x : Nat => Value.int .i64 (x : Int)) rfl (by simp [htl]) hT0 (by intro u hu; obtain ⟨y, _, rfl⟩ := List.mem_map.1 hu; rfl) (by unfold maxLen; omega) (by omega) (Nat.le_refl _) ?_; intro v7 w7 hown7 hgrow7 hnil7; clear hT0 hnil7; have hD7 : Below wr.heap.size wr w7 := (Below.refl _ wr).grown hgrow7 (Nat.le_refl _) (fun k e => (by cases e)); have hsz7 := hD7.size)
            | (at_builtin; refine wpList_append_own _ rfl _ _ 22 rfl wr.heap.size 3 i3 (.int .i64 0) 1 8 underInts hi hz0 hz1 hz2 rfl (by decide) _ _ _ rfl (hown7.alloc _) ⟨w7.heap.size, 0, none⟩ 1 1 [.int .i64 (m : Nat)] rfl rfl (cells_new _ _ _) (by simp [Value.oneCell']) (by unfold maxLen; omega) (by omega) (by simp; omega) ?_; intro v8 w8 hown8 hgrow8 hnil8; clear hnil8; have hD8 : Below wr.heap.size wr w8 := (hD7.alloc hsz7 _).grown hgrow8 (by simp; omega) (fun k e => (hown7.lt k e).1); clear hown7; have hsz8 := hD8.size; have hcD8 := HCD.out w8 hD8)
            | (at_builtin; refine wpList_append_own _ rfl _ _ 22 rfl wr.heap.size 3 i3 (.int .i64 0) 1 8 underInts hi hz0 hz1 hz2 rfl (by decide) _ _ _ rfl hown8 ⟨g, 0, none⟩ 0 0 [] rfl (by simp) (by simp) (by simp) (by unfold maxLen; omega) (by omega) hsz8 ?_; intro v9 w9 hown9 hgrow9 hnil9; clear hnil9; have hD9 : Below wr.heap.size wr w9 := hD8.grown hgrow9 hsz8 (fun k e => (hown8.lt k e).1)))
          go_ret2
          refine ⟨_, k, rfl, ?_, HPL.out, hB1.trans (hD9.mono hB1.size)⟩
          unfold insL
          rw [HT.out, HDK.out]
          have hd0 : dk = [] := List.eq_nil_of_length_eq_zero (by omega)
          have e9 : OwnInts w9 wr.heap.size v9 (tk ++ [m] ++ dk) := by
            rw [hd0]
            unfold OwnInts
            rw [List.append_nil, List.map_append, List.length_append, htl]
            simpa using hown9
          exact e9.zero
        · go_wp2_with (first
            | (at_builtin; refine wpList_append_own _ rfl _ _ 22 rfl wr.heap.size 3 i3 (.int .i64 0) 1 8 underInts hi hz0 hz1 hz2 rfl (by decide) _ _ _ rfl (World.ownsRow_nil wr wr.heap.size 3 1) ⟨g, 0, none⟩ k cap (tk.map fun x : Nat => Value.int .i64 (x : Int)) rfl (by simp [htl]) hT0 (by intro u hu; obtain ⟨y, _, rfl⟩ := List.mem_map.1 hu; rfl) (by unfold maxLen; omega) (by omega) (Nat.le_refl _) ?_; intro v7 w7 hown7 hgrow7 hnil7; clear hT0 hnil7; have hD7 : Below wr.heap.size wr w7 := (Below.refl _ wr).grown hgrow7 (Nat.le_refl _) (fun k e => (by cases e)); have hsz7 := hD7.size)
            | (at_builtin; refine wpList_append_own _ rfl _ _ 22 rfl wr.heap.size 3 i3 (.int .i64 0) 1 8 underInts hi hz0 hz1 hz2 rfl (by decide) _ _ _ rfl (hown7.alloc _) ⟨w7.heap.size, 0, none⟩ 1 1 [.int .i64 (m : Nat)] rfl rfl (cells_new _ _ _) (by simp [Value.oneCell']) (by unfold maxLen; omega) (by omega) (by simp; omega) ?_; intro v8 w8 hown8 hgrow8 hnil8; clear hnil8; have hD8 : Below wr.heap.size wr w8 := (hD7.alloc hsz7 _).grown hgrow8 (by simp; omega) (fun k e => (hown7.lt k e).1); clear hown7; have hsz8 := hD8.size; have hcD8 := HCD.out w8 hD8)
            | (at_builtin; refine wpList_append_own _ rfl _ _ 22 rfl wr.heap.size 3 i3 (.int .i64 0) 1 8 underInts hi hz0 hz1 hz2 rfl (by decide) _ _ _ rfl hown8 ⟨g, k, none⟩ (L.length - k) (cap - k) (dk.map fun x : Nat => Value.int .i64 (x : Int)) rfl (by simp [hdl]) hcD8 (by intro u hu; obtain ⟨y, _, rfl⟩ := List.mem_map.1 hu; rfl) (by unfold maxLen; omega) (by omega) hsz8 ?_; intro v9 w9 hown9 hgrow9 hnil9; clear hnil9; have hD9 : Below wr.heap.size wr w9 := hD8.grown hgrow9 hsz8 (fun k e => (hown8.lt k e).1)))
          go_ret2
          refine ⟨_, k, rfl, ?_, HPL.out, hB1.trans (hD9.mono hB1.size)⟩
          unfold insL
          rw [HT.out, HDK.out]
          have e9 : OwnInts w9 wr.heap.size v9 (tk ++ [m] ++ dk) := by
            unfold OwnInts
            rw [List.map_append, List.map_append, List.length_append, List.length_append, htl, hdl]
            simpa using hown9
          exact e9.zero

set_option maxRecDepth 100000 in
theorem qadd_no {w : World} {v : Value} {L : List Nat} (hv : OwnInts w 0 v L) (hln : L.length ≤ 1000000) (f : Int) (hno : f < 0 ∨ 2147483647 < f ∨ f ∈ L.map fun x : Nat => (x : Int)) :
    Calls Try.prog 35 #[v, .int .i64 f] w fun e w' => e = .returned (.tuple #[v, .bool false]) ∧ Below w.heap.size w w' := by
  obtain ⟨p0, c0, rfl, hia⟩ := hv.intsAt
  have hqh := qhas_any hia hln f
  clear hia hv
  generalize L.length = n0 at hqh
  by_cases h1 : f < 0
  · have hd1 : decide (f < 0) = true := decide_eq_true h1
    generalize decide (f ∈ L.map fun x : Nat => (x : Int)) = bb at hqh
    go_enter Try.func35, Try.ntmps35
    go_wp2_with (first
      | (go_at_call 59; refine hqh.mono ?_; rintro e w1 ⟨rfl, hB1⟩; clear hqh))
    go_ret2
    exact ⟨rfl, hB1⟩
  · have hd1 : decide (f < 0) = false := decide_eq_false h1
    by_cases h2 : 2147483647 < f
    · have hd2 : decide ((2147483647 : Int) < f) = true := decide_eq_true h2
      generalize decide (f ∈ L.map fun x : Nat => (x : Int)) = bb at hqh
      go_enter Try.func35, Try.ntmps35
      go_wp2_with (first
        | (go_at_call 59; refine hqh.mono ?_; rintro e w1 ⟨rfl, hB1⟩; clear hqh))
      go_ret2
      exact ⟨rfl, hB1⟩
    · have hd2 : decide ((2147483647 : Int) < f) = false := decide_eq_false h2
      have h3 := (hno.resolve_left h1).resolve_left h2
      rw [decide_eq_true h3] at hqh
      clear h3 hno
      go_enter Try.func35, Try.ntmps35
      go_wp2_with (first
        | (go_at_call 59; refine hqh.mono ?_; rintro e w1 ⟨rfl, hB1⟩; clear hqh))
      go_ret2
      exact ⟨rfl, hB1⟩
end Go.Proofs.Ytdfpnpjdiebniaa
