/-
  The document's Bytes.
-/
import Derived.Test.YtiokbhbggpibpaaBRefP
namespace Go.Proofs.Ytiokbhbggpibpaa
open Go Go.RowKit Go.Maps

theorem run_256 {L : List Nat} {i k u : Nat} (hr : L.Pairwise (· < ·)) (hik : i ≤ k) (hk : k ≤ L.length) (ha : Ahead L i u) (hu : OfUp u (runL L i k)) : k - i ≤ 256 := by
  have h1 : cnt (atU (ofN (L.take k)) u) = k - i := by rw [cnt_lows, run_lows hr hik ha hu, List.length_map, runL_len hk]
  have := cnt_le (atU (ofN (L.take k)) u)
  omega
theorem head_eq {u m a1 a2 a3 a4 m1 : Nat} (h1 : u / 65536 = a1) (h2 : u / 256 = a2) (h3 : a2 % 256 = a3) (h4 : u % 256 = a4) (h5 : m - 1 = m1) : headB u m = [UInt8.ofNat a1, UInt8.ofNat a3, UInt8.ofNat a4, UInt8.ofNat m1] := by
  have k1 : UInt8.ofNat (u / 256) = UInt8.ofNat a3 := by
    refine UInt8.toNat_inj.1 ?_
    simp
    omega
  have k2 : UInt8.ofNat u = UInt8.ofNat a4 := by
    refine UInt8.toNat_inj.1 ?_
    simp
    omega
  unfold headB
  rw [k1, k2, h1, h5]
theorem cells_new (W : World) (t : TypeId) (cs : List Value) : ∀ j v, cs[j]? = some v → (W.alloc (.cells cs.toArray t)).cell? ((⟨W.heap.size, 0, none⟩ : Addr).add j) = some v := fun j v hv => by
  rw [add_plain, Nat.zero_add]
  have h : Holds (W.alloc (.cells cs.toArray t)) W.heap.size t cs.toArray := Holds.new _ _ _
  rw [h.cell j, List.getElem?_toArray]
  exact hv
theorem head_cells {u m a1 a3 a4 m1 : Nat} (h : headB u m = [UInt8.ofNat a1, UInt8.ofNat a3, UInt8.ofNat a4, UInt8.ofNat m1]) (h1 : a1 < 256) (h3 : a3 < 256) (h4 : a4 < 256) (h5 : m1 < 256) : Lib.byteCells (headB u m) = [.int .u8 (a1 : Nat), .int .u8 (a3 : Nat), .int .u8 (a4 : Nat), .int .u8 (m1 : Nat)] := by
  rw [h]
  simp [Lib.byteCells]
  omega
/-- The lower parts as bytes. -/
def lowR (L : List Nat) (i j : Nat) : List UInt8 := (runL L i j).map fun x => UInt8.ofNat (x % 256)
theorem lowR_nil (L : List Nat) (i : Nat) : lowR L i i = [] := by unfold lowR; rw [runL_nil]; rfl
theorem lowR_snoc {L : List Nat} {i j x : Nat} (hij : i ≤ j) (h : L[j]? = some x) : lowR L i (j + 1) = lowR L i j ++ [UInt8.ofNat (x % 256)] := by unfold lowR; rw [runL_snoc hij h, List.map_append]; rfl
theorem cells_snoc (Z : List UInt8) (b : Nat) (hb : b < 256) : Lib.byteCells (Z ++ [UInt8.ofNat b]) = Lib.byteCells Z ++ [.int .u8 (b : Nat)] := by
  rw [Lib.byteCells_append]
  congr 1
  simp [Lib.byteCells]
  omega
theorem grown_holds {A B : World} {row : Option Nat} {tmp : Obj} (hg : (A.alloc tmp).grownBy B row) {b : Nat} {t : TypeId} {cs : Array Value} (h : Holds A b t cs) (hne : some b ≠ row) : Holds B b t cs := by
  have h1 := (h.alloc tmp).lt
  have h2 := h.alloc tmp
  unfold Holds at *
  rw [hg.block b h1 hne]; exact h2
theorem ofList_snoc2 (l : List Nat) (x : Nat) : ofList (l ++ [x]) = fun y => decide (y = x) || ofList l y := by
  funext y
  unfold ofList
  rw [Bool.eq_iff_iff]
  simp
  exact Or.comm
theorem row_not2 {W : World} {base n : Nat} {e : TypeId} {size : Nat} {v : Value} {xs : List Value} (h : W.ownsRow base e size v n xs) {b : Nat} {t : TypeId} {cs : Array Value} (hh : Holds W b t cs) (ht : t ≠ e) : some b ≠ v.ownBlock := fun e' => by
  rcases h.2 with ⟨rfl, _⟩ | ⟨g, cap, cur, rfl, _, hb, _⟩
  · cases e'
  · simp [Value.ownBlock] at e'
    subst e'
    unfold Holds at hh
    rw [hb] at hh
    injection hh with hh
    injection hh with _ h2 _
    exact ht h2.symm
theorem then_normal {K : Act → World → Prop} {Q : Exit → Act → World → Prop} {a : Act} {w : World} (h : K a w) : Exit.then K Q .normal a w := h
theorem IntsAt.nat {w : World} {p : Option Addr} {n c : Nat} {L : List Nat} (h : IntsAt w (.slice p n c) (L.map fun x : Nat => (x : Int))) (h0 : 0 < L.length) : ∃ g o, p = some ⟨g, o, none⟩ ∧ ∀ W, Below w.heap.size w W → ∀ j x, L[j]? = some x → W.cell? ⟨g, o + j, none⟩ = some (.int .i64 (x : Nat)) := by
  obtain ⟨g, o, rfl, hc⟩ := h.at (i := 0) (by simpa using h0)
  refine ⟨g, o, rfl, fun W hB j x hx => ?_⟩
  have := hc j (x : Int) (by rw [List.getElem?_map, hx]; rfl)
  exact (hB.cell (p := ⟨g, o + j, none⟩) (World.block_lt_of_cell? _ _ this)).trans this

set_option maxRecDepth 100000 in
set_option maxHeartbeats 4000000 in
theorem qbytes_any {w : World} {p : Option Addr} {n c : Nat} {L : List Nat} (hv : IntsAt w (.slice p n c) (L.map fun x : Nat => (x : Int))) (hr : L.Pairwise (· < ·)) (hb : ∀ x ∈ L, x < 2147483648) (hln : L.length ≤ 2147483648) :
    Calls Try.prog 36 #[.slice p n c] w fun e w' => e = .returned (.string ⟨(bytesM (ofN L)).toArray⟩) ∧ Below w.heap.size w w' := by
  have hlen : L.length = n := by have := hv.len; simpa using this
  obtain ⟨i0, hi, hz0, hz1, hz2⟩ := info_parts info5
  have hb0 : bytesM (ofN []) = [] := by rw [ofN_nil]; exact bytesM_none
  go_enter Try.func36, Try.ntmps36
  go_wp2_with fail
  go_loopw [3, 4] (fun bv y wr => ∃ (i : Nat), y = .int .i64 (i : Nat) ∧ i ≤ L.length ∧ (∀ z, L[i]? = some z → Ahead L i (z / 256)) ∧ wr.ownsRow w.heap.size 5 1 bv (bytesM (ofN (L.take i))).length (Lib.byteCells (bytesM (ofN (L.take i)))) ∧ Below w.heap.size w wr) (fun _ y _ => L.length - (intOf y).toNat)
  case atStart =>
    refine ⟨0, rfl, Nat.zero_le _, fun z _ x hx => (by simp at hx), ?_, Below.refl _ _⟩
    rw [List.take_zero, hb0]
    exact World.ownsRow_nil _ _ _ _
  case round =>
    obtain ⟨i, rfl, hil, hah, hown, hBr⟩ := hrel
    by_cases hlt : i < L.length
    · obtain ⟨g, o, rfl, hcell⟩ := hv.nat (by omega)
      have hlti : (i : Int) < n := by omega
      have hi0 : (0 : Int) ≤ i := by omega
      obtain ⟨x0, hx0⟩ : ∃ x, L[i]? = some x := ⟨_, List.getElem?_eq_getElem hlt⟩
      obtain ⟨u, hu⟩ : ∃ u, x0 / 256 = u := ⟨_, rfl⟩
      have hx0b := hb x0 (List.mem_of_getElem? hx0)
      have ha := hah x0 hx0
      rw [hu] at ha
      have hc0 := fun W hB => hcell W hB i x0 hx0
      go_wp2_with fail
      generalize wr = wo at *
      go_loopw [5] (fun y wk => ∃ k : Nat, y = .int .i64 (k : Nat) ∧ i ≤ k ∧ k ≤ L.length ∧ OfUp u (runL L i k) ∧ Below wo.heap.size wo wk) (fun y _ => L.length - (intOf y).toNat)
      case atStart => exact ⟨i, rfl, Nat.le_refl _, hil, (by rw [runL_nil]; intro x hx; cases hx), Below.refl _ _⟩
      case round =>
        obtain ⟨k, rfl, hik, hkl, hup, hBk⟩ := hrel
        have hBwk := hBr.trans (hBk.mono hBr.size)
        by_cases hk : k < L.length
        · have hki : (k : Int) < n := by omega
          have hk0 : (0 : Int) ≤ k := by omega
          obtain ⟨x, hx⟩ : ∃ x, L[k]? = some x := ⟨_, List.getElem?_eq_getElem hk⟩
          have hxb := hb x (List.mem_of_getElem? hx)
          have hcx := hcell wr hBwk k x hx
          have hcy := hc0 wr hBwk
          have hq2 : (x0 : Int) / 256 = (u : Int) := by omega
          by_cases hxu : x / 256 = u
          · have hq3 : (x : Int) / 256 = (u : Int) := by omega
            go_wp2_with fail
            go_quiet (fail)
            refine then_normal ?_
            go_at_K
            go_wp2_with fail
            exact ⟨⟨k + 1, by simp, by omega, by omega, run_up hik hx hxu hup, (below_drewN hBk nq)⟩, by simp [intOf]; omega⟩
          · obtain ⟨v, hvx⟩ : ∃ v, x / 256 = v := ⟨_, rfl⟩
            have hq1 : (x : Int) / 256 = (v : Int) := by omega
            have hq3 : ((v : Int) == (u : Int)) = false := beq_eq_false_iff_ne.2 (by omega)
            have HV : Hid (x / 256 = v) := hvx
            have HXU : Hid (¬ x / 256 = u) := hxu
            clear hvx hxu
            go_wp2_with fail
            go_quiet (fail)
            refine then_normal ?_
            go_at_K
            have hcz := hc0 (wr.drewN nq) (below_drewN hBwk nq)
            have hne : i < k := by rcases Nat.lt_or_ge i k with h | h; exact h; have e : k = i := (by omega); subst e; rw [hx0] at hx; injection hx with hx; subst hx; exact absurd hu HXU.out
            have h256 := run_256 hr hik hkl ha hup
            have hu8 : u < 8388608 := by omega
            have hownk := ownsRow_below (below_drewN hBk nq) hown
            obtain ⟨a1, ha1⟩ : ∃ a, u / 65536 = a := ⟨_, rfl⟩
            obtain ⟨a2, ha2⟩ : ∃ a, u / 256 = a := ⟨_, rfl⟩
            obtain ⟨a3, ha3⟩ : ∃ a, a2 % 256 = a := ⟨_, rfl⟩
            obtain ⟨a4, ha4⟩ : ∃ a, u % 256 = a := ⟨_, rfl⟩
            obtain ⟨m, hm⟩ : ∃ a, k - i = a := ⟨_, rfl⟩
            obtain ⟨m1, hm1⟩ : ∃ a, m - 1 = a := ⟨_, rfl⟩
            have e1 : (u : Int) / 65536 = a1 := by omega
            have e2 : (u : Int) / 256 = a2 := by omega
            have e3 : (a2 : Int) % 256 = a3 := by omega
            have e4 : (u : Int) % 256 = a4 := by omega
            have e5 : (k : Int) - i = m := by omega
            have e6 : (m : Int) - 1 = m1 := by omega
            have w1 : IntKind.u8.wrap (a1 : Int) = a1 := by rw [IntKind.wrap_u8]; omega
            have w3 : IntKind.u8.wrap (a3 : Int) = a3 := by rw [IntKind.wrap_u8]; omega
            have w4 : IntKind.u8.wrap (a4 : Int) = a4 := by rw [IntKind.wrap_u8]; omega
            have w6 : IntKind.u8.wrap (m1 : Int) = m1 := by rw [IntKind.wrap_u8]; omega
            have w7 : IntKind.i64.wrap ((k : Int) - i) = m := by rw [IntKind.wrap_i64]; omega
            have w8 : IntKind.i64.wrap ((m : Int) - 1) = m1 := by rw [IntKind.wrap_i64]; omega
            have HP : Hid (headB u m = [UInt8.ofNat a1, UInt8.ofNat a3, UInt8.ofNat a4, UInt8.ofNat m1]) := head_eq ha1 ha2 ha3 ha4 hm1
            have HU8 : Hid (u < 8388608) := hu8
            have HH4 : Hid (Lib.byteCells (headB u m) = [.int .u8 (a1 : Nat), .int .u8 (a3 : Nat), .int .u8 (a4 : Nat), .int .u8 (m1 : Nat)]) := head_cells HP.out (by omega) (by omega) (by omega) (by omega)
            have HMM : Hid (k - i = m) := hm
            have HUP : Hid (OfUp u (runL L i k)) := hup
            have HA : Hid (Ahead L i u) := ha
            have HB : Hid (∀ x ∈ L, x < 2147483648) := hb
            have HC : Hid (∀ W, Below w.heap.size w W → ∀ j x, L[j]? = some x → W.cell? ⟨g, o + j, none⟩ = some (.int .i64 (x : Nat))) := hcell
            have HR : Hid (L.Pairwise (· < ·)) := hr
            have HX0 : Hid (L[i]? = some x0) := hx0
            have HU : Hid (x0 / 256 = u) := hu
            have HU0 : (x0 : Int) / 256 = (u : Int) := by omega
            clear hu
            clear ha1 ha2 ha3 ha4 hm1 hm hup ha hb hcell hr hah hc0 hx0 hown hcx hcy hq1 hq2 hxb
            have hbl := bytesM_len (ofN (L.take i))
            have HBY : ∃ Y, bytesM (ofN (L.take i)) = Y := ⟨_, rfl⟩
            obtain ⟨Y, hY⟩ := HBY
            rw [hY] at hownk hbl
            have HY : Hid (bytesM (ofN (L.take i)) = Y) := hY
            clear hY
            generalize hWK : (wr.drewN nq) = Wk at hcz hownk ⊢
            have HWB : Hid (Below w.heap.size w Wk) := (by rw [← hWK]; exact (below_drewN hBwk nq))
            have hszk : w.heap.size ≤ Wk.heap.size := HWB.out.size
            clear hWK
            have hhl : (headB u m).length = 4 := rfl
            by_cases h32 : m ≤ 32
            · have h32i : (m : Int) ≤ 32 := by omega
              go_wp2_with (first
                | (at_builtin; refine wpList_append_own _ rfl _ _ 86 rfl w.heap.size 5 i0 (.int .u8 0) 1 1 underBytes hi hz0 hz1 hz2 rfl (by decide) _ _ _ rfl (hownk.alloc _) ⟨Wk.heap.size, 0, none⟩ 4 4 [.int .u8 (a1 : Nat), .int .u8 (a3 : Nat), .int .u8 (a4 : Nat), .int .u8 (m1 : Nat)] rfl rfl (cells_new _ _ _) (by simp [Value.oneCell']) (by unfold maxLen; omega) (by omega) (by simp; omega) ?_; intro v5 w5 hown5 hgrow5 hnil5))
              have hB5 : Below w.heap.size w w5 := (HWB.out.alloc hszk _).grown hgrow5 (by simp; omega) (fun k e => (hownk.lt k e).1)
              have hown6 : w5.ownsRow w.heap.size 5 1 v5 (Y ++ headB u m).length (Lib.byteCells (Y ++ headB u m)) := by
                rw [Lib.byteCells_append, HH4.out, List.length_append, hhl]; exact hown5
              clear hown5 hgrow5 hnil5 hownk
              go_loopw [3, 7] (fun bv y wl => ∃ j : Nat, y = .int .i64 (j : Nat) ∧ i ≤ j ∧ j ≤ k ∧ wl.ownsRow w.heap.size 5 1 bv (Y ++ headB u m ++ lowR L i j).length (Lib.byteCells (Y ++ headB u m ++ lowR L i j)) ∧ Below w.heap.size w wl) (fun _ y _ => k - (intOf y).toNat)
              case atStart => exact ⟨i, rfl, Nat.le_refl _, hik, by rw [lowR_nil, List.append_nil]; exact hown6, hB5⟩
              case round =>
                obtain ⟨j, rfl, hij, hjk, hownj, hBj⟩ := hrel
                have hszj := hBj.size
                by_cases hjlt : j < k
                · have hjlti : (j : Int) < k := by omega
                  have hjn : (j : Int) < n := by omega
                  have hj0 : (0 : Int) ≤ j := by omega
                  obtain ⟨xj, hxj⟩ : ∃ x, L[j]? = some x := ⟨_, List.getElem?_eq_getElem (by omega)⟩
                  have hcj := HC.out wr hBj j xj hxj
                  obtain ⟨lj, hlj⟩ : ∃ a, xj % 256 = a := ⟨_, rfl⟩
                  have r1 : (xj : Int) % 256 = lj := by omega
                  have r2 : IntKind.u8.wrap (lj : Int) = lj := by rw [IntKind.wrap_u8]; omega
                  have hsn := lowR_snoc hij hxj
                  rw [hlj] at hsn
                  have hlj2 : lj < 256 := by omega
                  have hZl : (Y ++ headB u m ++ lowR L i j).length ≤ 301990200 := by
                    rw [List.length_append, List.length_append, hhl]
                    unfold lowR
                    rw [List.length_map, runL_len (by omega)]
                    omega
                  have hsn2 : Y ++ headB u m ++ lowR L i (j + 1) = Y ++ headB u m ++ lowR L i j ++ [UInt8.ofNat lj] := by simp [hsn, List.append_assoc]
                  have HSN : Hid _ := hsn2
                  have HXJ : Hid (L[j]? = some xj) := hxj
                  generalize Y ++ headB u m ++ lowR L i j = Z at hownj hZl HSN
                  clear hsn hsn2 hxj hlj
                  go_wp2_with (first
                    | (at_builtin; refine wpList_append_own _ rfl _ _ 86 rfl w.heap.size 5 i0 (.int .u8 0) 1 1 underBytes hi hz0 hz1 hz2 rfl (by decide) _ _ _ rfl (hownj.alloc _) ⟨wr.heap.size, 0, none⟩ 1 1 [.int .u8 (lj : Nat)] rfl rfl (cells_new _ _ _) (by simp [Value.oneCell']) (by unfold maxLen; omega) (by omega) (by simp; omega) ?_; intro v6 w6 hown7 hgrow7 hnil7))
                  refine ⟨⟨j + 1, by simp, by omega, by omega, ?_, (hBj.alloc hszj _).grown hgrow7 (by simp; omega) (fun k e => (hownj.lt k e).1)⟩, by simp [intOf]; omega⟩
                  rw [HSN.out, cells_snoc _ _ hlj2, List.length_append]
                  exact hown7
                · obtain rfl : j = k := by omega
                  have hjlti : ¬ (j : Int) < j := by omega
                  go_wp2_with fail
                  refine ⟨⟨j, by simp, hkl, ?_, ?_, hBj⟩, by simp [intOf]; omega⟩
                  · exact fun z hz => ahead_next2 HR.out hne HX0.out HU.out HA.out HUP.out hz (by rw [hx] at hz; injection hz with hz; rw [← hz]; exact HXU.out)
                  · have h32' : j - i ≤ 32 := by have := HMM.out; omega
                    have hby := run_bytes HR.out (by rw [NU_eq]; exact HU8.out) hne hkl HA.out HUP.out
                    rw [run_list HR.out hne hkl HA.out HUP.out h32', HY.out, HMM.out] at hby
                    rw [hby]; exact hownj
            · have h32i : ¬ (m : Int) ≤ 32 := by omega
              go_wp2_with (first
                | (at_builtin; refine wpList_append_own _ rfl _ _ 86 rfl w.heap.size 5 i0 (.int .u8 0) 1 1 underBytes hi hz0 hz1 hz2 rfl (by decide) _ _ _ rfl (hownk.alloc _) ⟨Wk.heap.size, 0, none⟩ 4 4 [.int .u8 (a1 : Nat), .int .u8 (a3 : Nat), .int .u8 (a4 : Nat), .int .u8 (m1 : Nat)] rfl rfl (cells_new _ _ _) (by simp [Value.oneCell']) (by unfold maxLen; omega) (by omega) (by simp; omega) ?_; intro v5 w5 hown5 hgrow5 hnil5; obtain ⟨W6, hW6⟩ : ∃ W6, World.alloc w5 (.cells (contA fun _ => false) 74) = W6 := ⟨_, rfl⟩; have hh6 : Holds W6 w5.heap.size 74 (contA fun _ => false) := (by rw [← hW6]; exact Holds.new _ _ _); have hB56 : Below w5.heap.size w5 W6 := (by rw [← hW6]; exact below_new1 _ _); rw [zeroC] at hW6))
              have hB5 : Below w.heap.size w w5 := (HWB.out.alloc hszk _).grown hgrow5 (by simp; omega) (fun k e => (hownk.lt k e).1)
              have hown6 : w5.ownsRow w.heap.size 5 1 v5 (Y ++ headB u m).length (Lib.byteCells (Y ++ headB u m)) := by
                rw [Lib.byteCells_append, HH4.out, List.length_append, hhl]; exact hown5
              have hown7 := ownsRow_below hB56 hown6
              have hB6 := below_new hB5 hB56
              have hs5 := hB5.size
              clear hown5 hgrow5 hnil5 hownk hW6 hown6
              go_loopw [9] (fun y wl => ∃ j : Nat, y = .int .i64 (j : Nat) ∧ i ≤ j ∧ j ≤ k ∧ Holds wl w5.heap.size 74 (contA (ofList ((runL L i j).map (· % 256)))) ∧ Only w5.heap.size W6 wl) (fun y _ => k - (intOf y).toNat)
              case atStart => exact ⟨i, rfl, Nat.le_refl _, hik, by rw [runL_nil]; exact hh6.congr (contA_congr fun _ _ => rfl), Only.refl _ _⟩
              case round =>
                obtain ⟨j, rfl, hij, hjk, hhj, hOj⟩ := hrel
                have hBj : Below w.heap.size w wr := Only.fresh hB6 hOj hs5
                by_cases hjlt : j < k
                · have hjlti : (j : Int) < k := by omega
                  have hjn : (j : Int) < n := by omega
                  have hj0 : (0 : Int) ≤ j := by omega
                  obtain ⟨xj, hxj⟩ : ∃ x, L[j]? = some x := ⟨_, List.getElem?_eq_getElem (by omega)⟩
                  have hcj := HC.out wr hBj j xj hxj
                  obtain ⟨lj, hlj⟩ : ∃ a, xj % 256 = a := ⟨_, rfl⟩
                  have r1 : (xj : Int) % 256 = lj := by omega
                  have hlj2 : lj < 256 := by omega
                  have hsn := runL_snoc hij hxj
                  have HSN : Hid (contA (ofList ((runL L i (j + 1)).map (· % 256))) = contA fun l => decide (l = lj) || ofList ((runL L i j).map (· % 256)) l) := (by
                    rw [hsn, List.map_append]
                    show contA (ofList (_ ++ [xj % 256])) = _
                    rw [ofList_snoc2, hlj])
                  generalize ofList ((runL L i j).map (· % 256)) = q at hhj HSN
                  have hset := contA_with q lj
                  rw [← or_two q lj] at hset
                  have hgt := (hhj.cell (lj / 8)).trans (contA_get q (lj / 8) (by omega))
                  have hfz := hhj.frozen (lj / 8)
                  clear hxj hlj hsn
                  go_wp2_with fail
                  exact ⟨⟨j + 1, by simp, by omega, by omega, (hhj.set _ _).congr (hset.trans HSN.out.symm), hOj.set _ _⟩, by simp [intOf]; omega⟩
                · obtain rfl : j = k := by omega
                  have hjlti : ¬ (j : Int) < j := by omega
                  have hgne : some w5.heap.size ≠ v5.ownBlock := fun e => (row_not2 hown7 hh6 (by decide)) e
                  have hownW := ownsRow_only hown7 hOj hgne
                  have hBB := bitB_len (ofList ((runL L i j).map (· % 256)))
                  have HQ0 : ∃ q, ofList ((runL L i j).map (· % 256)) = q := ⟨_, rfl⟩
                  obtain ⟨q, hq⟩ := HQ0
                  rw [hq] at hhj hBB
                  have HQ : Hid (ofList ((runL L i j).map (· % 256)) = q) := hq
                  clear hq hOj hown7 hB6 hh6 hB56 hgne
                  generalize wr = wq at *
                  go_wp2_with fail
                  go_loopw [3, 11] (fun bv y wl => ∃ t : Nat, y = .int .i64 (t : Nat) ∧ t ≤ 32 ∧ wl.ownsRow w.heap.size 5 1 bv (Y ++ headB u m ++ (bitB q).take t).length (Lib.byteCells (Y ++ headB u m ++ (bitB q).take t)) ∧ Holds wl w5.heap.size 74 (contA q) ∧ Below w.heap.size w wl) (fun _ y _ => 32 - (intOf y).toNat)
                  case atStart => exact ⟨0, rfl, by omega, by rw [List.take_zero, List.append_nil]; exact hownW, hhj, hBj⟩
                  case round =>
                    obtain ⟨t, rfl, ht, hownt, hht, hBt⟩ := hrel
                    have hszt := hBt.size
                    by_cases htl : t < 32
                    · have htli : (t : Int) < 32 := by omega
                      have ht0 : (0 : Int) ≤ t := by omega
                      have hgt := (hht.cell t).trans (contA_get q t htl)
                      have hb2 := bt_lt q t
                      have hsn : Y ++ headB u m ++ (bitB q).take (t + 1) = Y ++ headB u m ++ (bitB q).take t ++ [UInt8.ofNat (bt q t)] := by
                        rw [List.take_succ_eq_append_getElem (by omega), ← List.append_assoc]
                        simp [bitB]
                      have HSN : Hid _ := hsn
                      have hZl : (Y ++ headB u m ++ (bitB q).take t).length ≤ 301990200 := by
                        rw [List.length_append, List.length_append, hhl, List.length_take]
                        omega
                      generalize Y ++ headB u m ++ (bitB q).take t = Z at hownt hZl HSN
                      generalize bt q t = bb at hgt hb2 HSN
                      clear hsn
                      have hnr := row_not2 hownt hht (by decide)
                      have HNR : Hid _ := hnr
                      clear hnr
                      go_wp2_with (first
                        | (at_builtin; refine wpList_append_own _ rfl _ _ 86 rfl w.heap.size 5 i0 (.int .u8 0) 1 1 underBytes hi hz0 hz1 hz2 rfl (by decide) _ _ _ rfl (hownt.alloc _) ⟨wr.heap.size, 0, none⟩ 1 1 [.int .u8 (bb : Nat)] rfl rfl (cells_new _ _ _) (by simp [Value.oneCell']) (by unfold maxLen; omega) (by omega) (by simp; omega) ?_; intro v6 w6 hown8 hgrow8 hnil8))
                      refine ⟨⟨t + 1, by simp, by omega, ?_, grown_holds hgrow8 hht HNR.out, (hBt.alloc hszt _).grown hgrow8 (by simp; omega) (fun k e => (hownt.lt k e).1)⟩, by simp [intOf]; omega⟩
                      rw [HSN.out, cells_snoc _ _ hb2, List.length_append]
                      exact hown8
                    · obtain rfl : t = 32 := by omega
                      go_wp2_with fail
                      refine ⟨⟨j, by simp, hkl, ?_, ?_, hBt⟩, by simp [intOf]; omega⟩
                      · exact fun z hz => ahead_next2 HR.out hne HX0.out HU.out HA.out HUP.out hz (by rw [hx] at hz; injection hz with hz; rw [← hz]; exact HXU.out)
                      · have h32' : ¬ j - i ≤ 32 := by have := HMM.out; omega
                        have hby := run_bytes HR.out (by rw [NU_eq]; exact HU8.out) hne hkl HA.out HUP.out
                        rw [run_bits HR.out hne hkl HA.out HUP.out h32', HY.out, HMM.out, HQ.out] at hby
                        rw [List.take_of_length_le (by omega)] at hownt
                        rw [hby]; exact hownt
        · obtain rfl : k = n := by omega
          go_wp2_with fail
          go_quiet (fail)
          refine then_normal ?_
          go_at_K
          have hcz := hc0 (wr.drewN nq) (below_drewN hBwk nq)
          have hne : i < k := by omega
          have h256 := run_256 hr hik hkl ha hup
          have hu8 : u < 8388608 := by omega
          have hownk := ownsRow_below (below_drewN hBk nq) hown
          obtain ⟨a1, ha1⟩ : ∃ a, u / 65536 = a := ⟨_, rfl⟩
          obtain ⟨a2, ha2⟩ : ∃ a, u / 256 = a := ⟨_, rfl⟩
          obtain ⟨a3, ha3⟩ : ∃ a, a2 % 256 = a := ⟨_, rfl⟩
          obtain ⟨a4, ha4⟩ : ∃ a, u % 256 = a := ⟨_, rfl⟩
          obtain ⟨m, hm⟩ : ∃ a, k - i = a := ⟨_, rfl⟩
          obtain ⟨m1, hm1⟩ : ∃ a, m - 1 = a := ⟨_, rfl⟩
          have e1 : (u : Int) / 65536 = a1 := by omega
          have e2 : (u : Int) / 256 = a2 := by omega
          have e3 : (a2 : Int) % 256 = a3 := by omega
          have e4 : (u : Int) % 256 = a4 := by omega
          have e5 : (k : Int) - i = m := by omega
          have e6 : (m : Int) - 1 = m1 := by omega
          have w1 : IntKind.u8.wrap (a1 : Int) = a1 := by rw [IntKind.wrap_u8]; omega
          have w3 : IntKind.u8.wrap (a3 : Int) = a3 := by rw [IntKind.wrap_u8]; omega
          have w4 : IntKind.u8.wrap (a4 : Int) = a4 := by rw [IntKind.wrap_u8]; omega
          have w6 : IntKind.u8.wrap (m1 : Int) = m1 := by rw [IntKind.wrap_u8]; omega
          have w7 : IntKind.i64.wrap ((k : Int) - i) = m := by rw [IntKind.wrap_i64]; omega
          have w8 : IntKind.i64.wrap ((m : Int) - 1) = m1 := by rw [IntKind.wrap_i64]; omega
          have HP : Hid (headB u m = [UInt8.ofNat a1, UInt8.ofNat a3, UInt8.ofNat a4, UInt8.ofNat m1]) := head_eq ha1 ha2 ha3 ha4 hm1
          have HU8 : Hid (u < 8388608) := hu8
          have HH4 : Hid (Lib.byteCells (headB u m) = [.int .u8 (a1 : Nat), .int .u8 (a3 : Nat), .int .u8 (a4 : Nat), .int .u8 (m1 : Nat)]) := head_cells HP.out (by omega) (by omega) (by omega) (by omega)
          have HMM : Hid (k - i = m) := hm
          have HUP : Hid (OfUp u (runL L i k)) := hup
          have HA : Hid (Ahead L i u) := ha
          have HB : Hid (∀ x ∈ L, x < 2147483648) := hb
          have HC : Hid (∀ W, Below w.heap.size w W → ∀ j x, L[j]? = some x → W.cell? ⟨g, o + j, none⟩ = some (.int .i64 (x : Nat))) := hcell
          have HR : Hid (L.Pairwise (· < ·)) := hr
          have HX0 : Hid (L[i]? = some x0) := hx0
          have HU : Hid (x0 / 256 = u) := hu
          have HU0 : (x0 : Int) / 256 = (u : Int) := by omega
          clear hu
          clear ha1 ha2 ha3 ha4 hm1 hm hup ha hb hcell hr hah hc0 hx0 hown
          have hbl := bytesM_len (ofN (L.take i))
          have HBY : ∃ Y, bytesM (ofN (L.take i)) = Y := ⟨_, rfl⟩
          obtain ⟨Y, hY⟩ := HBY
          rw [hY] at hownk hbl
          have HY : Hid (bytesM (ofN (L.take i)) = Y) := hY
          clear hY
          generalize hWK : (wr.drewN nq) = Wk at hcz hownk ⊢
          have HWB : Hid (Below w.heap.size w Wk) := (by rw [← hWK]; exact (below_drewN hBwk nq))
          have hszk : w.heap.size ≤ Wk.heap.size := HWB.out.size
          clear hWK
          have hhl : (headB u m).length = 4 := rfl
          by_cases h32 : m ≤ 32
          · have h32i : (m : Int) ≤ 32 := by omega
            go_wp2_with (first
              | (at_builtin; refine wpList_append_own _ rfl _ _ 86 rfl w.heap.size 5 i0 (.int .u8 0) 1 1 underBytes hi hz0 hz1 hz2 rfl (by decide) _ _ _ rfl (hownk.alloc _) ⟨Wk.heap.size, 0, none⟩ 4 4 [.int .u8 (a1 : Nat), .int .u8 (a3 : Nat), .int .u8 (a4 : Nat), .int .u8 (m1 : Nat)] rfl rfl (cells_new _ _ _) (by simp [Value.oneCell']) (by unfold maxLen; omega) (by omega) (by simp; omega) ?_; intro v5 w5 hown5 hgrow5 hnil5))
            have hB5 : Below w.heap.size w w5 := (HWB.out.alloc hszk _).grown hgrow5 (by simp; omega) (fun k e => (hownk.lt k e).1)
            have hown6 : w5.ownsRow w.heap.size 5 1 v5 (Y ++ headB u m).length (Lib.byteCells (Y ++ headB u m)) := by
              rw [Lib.byteCells_append, HH4.out, List.length_append, hhl]; exact hown5
            clear hown5 hgrow5 hnil5 hownk
            go_loopw [3, 7] (fun bv y wl => ∃ j : Nat, y = .int .i64 (j : Nat) ∧ i ≤ j ∧ j ≤ k ∧ wl.ownsRow w.heap.size 5 1 bv (Y ++ headB u m ++ lowR L i j).length (Lib.byteCells (Y ++ headB u m ++ lowR L i j)) ∧ Below w.heap.size w wl) (fun _ y _ => k - (intOf y).toNat)
            case atStart => exact ⟨i, rfl, Nat.le_refl _, hik, by rw [lowR_nil, List.append_nil]; exact hown6, hB5⟩
            case round =>
              obtain ⟨j, rfl, hij, hjk, hownj, hBj⟩ := hrel
              have hszj := hBj.size
              by_cases hjlt : j < k
              · have hjlti : (j : Int) < k := by omega
                have hjn : (j : Int) < k := by omega
                have hj0 : (0 : Int) ≤ j := by omega
                obtain ⟨xj, hxj⟩ : ∃ x, L[j]? = some x := ⟨_, List.getElem?_eq_getElem (by omega)⟩
                have hcj := HC.out wr hBj j xj hxj
                obtain ⟨lj, hlj⟩ : ∃ a, xj % 256 = a := ⟨_, rfl⟩
                have r1 : (xj : Int) % 256 = lj := by omega
                have r2 : IntKind.u8.wrap (lj : Int) = lj := by rw [IntKind.wrap_u8]; omega
                have hsn := lowR_snoc hij hxj
                rw [hlj] at hsn
                have hlj2 : lj < 256 := by omega
                have hZl : (Y ++ headB u m ++ lowR L i j).length ≤ 301990200 := by
                  rw [List.length_append, List.length_append, hhl]
                  unfold lowR
                  rw [List.length_map, runL_len (by omega)]
                  omega
                have hsn2 : Y ++ headB u m ++ lowR L i (j + 1) = Y ++ headB u m ++ lowR L i j ++ [UInt8.ofNat lj] := by simp [hsn, List.append_assoc]
                have HSN : Hid _ := hsn2
                have HXJ : Hid (L[j]? = some xj) := hxj
                generalize Y ++ headB u m ++ lowR L i j = Z at hownj hZl HSN
                clear hsn hsn2 hxj hlj
                go_wp2_with (first
                  | (at_builtin; refine wpList_append_own _ rfl _ _ 86 rfl w.heap.size 5 i0 (.int .u8 0) 1 1 underBytes hi hz0 hz1 hz2 rfl (by decide) _ _ _ rfl (hownj.alloc _) ⟨wr.heap.size, 0, none⟩ 1 1 [.int .u8 (lj : Nat)] rfl rfl (cells_new _ _ _) (by simp [Value.oneCell']) (by unfold maxLen; omega) (by omega) (by simp; omega) ?_; intro v6 w6 hown7 hgrow7 hnil7))
                refine ⟨⟨j + 1, by simp, by omega, by omega, ?_, (hBj.alloc hszj _).grown hgrow7 (by simp; omega) (fun k e => (hownj.lt k e).1)⟩, by simp [intOf]; omega⟩
                rw [HSN.out, cells_snoc _ _ hlj2, List.length_append]
                exact hown7
              · obtain rfl : j = k := by omega
                have hjlti : ¬ (j : Int) < j := by omega
                go_wp2_with fail
                refine ⟨⟨j, by simp, hkl, ?_, ?_, hBj⟩, by simp [intOf]; omega⟩
                · exact fun z hz => absurd (List.getElem?_eq_some_iff.1 hz).1 (by omega)
                · have h32' : j - i ≤ 32 := by have := HMM.out; omega
                  have hby := run_bytes HR.out (by rw [NU_eq]; exact HU8.out) hne hkl HA.out HUP.out
                  rw [run_list HR.out hne hkl HA.out HUP.out h32', HY.out, HMM.out] at hby
                  rw [hby]; exact hownj
          · have h32i : ¬ (m : Int) ≤ 32 := by omega
            go_wp2_with (first
              | (at_builtin; refine wpList_append_own _ rfl _ _ 86 rfl w.heap.size 5 i0 (.int .u8 0) 1 1 underBytes hi hz0 hz1 hz2 rfl (by decide) _ _ _ rfl (hownk.alloc _) ⟨Wk.heap.size, 0, none⟩ 4 4 [.int .u8 (a1 : Nat), .int .u8 (a3 : Nat), .int .u8 (a4 : Nat), .int .u8 (m1 : Nat)] rfl rfl (cells_new _ _ _) (by simp [Value.oneCell']) (by unfold maxLen; omega) (by omega) (by simp; omega) ?_; intro v5 w5 hown5 hgrow5 hnil5; obtain ⟨W6, hW6⟩ : ∃ W6, World.alloc w5 (.cells (contA fun _ => false) 74) = W6 := ⟨_, rfl⟩; have hh6 : Holds W6 w5.heap.size 74 (contA fun _ => false) := (by rw [← hW6]; exact Holds.new _ _ _); have hB56 : Below w5.heap.size w5 W6 := (by rw [← hW6]; exact below_new1 _ _); rw [zeroC] at hW6))
            have hB5 : Below w.heap.size w w5 := (HWB.out.alloc hszk _).grown hgrow5 (by simp; omega) (fun k e => (hownk.lt k e).1)
            have hown6 : w5.ownsRow w.heap.size 5 1 v5 (Y ++ headB u m).length (Lib.byteCells (Y ++ headB u m)) := by
              rw [Lib.byteCells_append, HH4.out, List.length_append, hhl]; exact hown5
            have hown7 := ownsRow_below hB56 hown6
            have hB6 := below_new hB5 hB56
            have hs5 := hB5.size
            clear hown5 hgrow5 hnil5 hownk hW6 hown6
            go_loopw [9] (fun y wl => ∃ j : Nat, y = .int .i64 (j : Nat) ∧ i ≤ j ∧ j ≤ k ∧ Holds wl w5.heap.size 74 (contA (ofList ((runL L i j).map (· % 256)))) ∧ Only w5.heap.size W6 wl) (fun y _ => k - (intOf y).toNat)
            case atStart => exact ⟨i, rfl, Nat.le_refl _, hik, by rw [runL_nil]; exact hh6.congr (contA_congr fun _ _ => rfl), Only.refl _ _⟩
            case round =>
              obtain ⟨j, rfl, hij, hjk, hhj, hOj⟩ := hrel
              have hBj : Below w.heap.size w wr := Only.fresh hB6 hOj hs5
              by_cases hjlt : j < k
              · have hjlti : (j : Int) < k := by omega
                have hjn : (j : Int) < k := by omega
                have hj0 : (0 : Int) ≤ j := by omega
                obtain ⟨xj, hxj⟩ : ∃ x, L[j]? = some x := ⟨_, List.getElem?_eq_getElem (by omega)⟩
                have hcj := HC.out wr hBj j xj hxj
                obtain ⟨lj, hlj⟩ : ∃ a, xj % 256 = a := ⟨_, rfl⟩
                have r1 : (xj : Int) % 256 = lj := by omega
                have hlj2 : lj < 256 := by omega
                have hsn := runL_snoc hij hxj
                have HSN : Hid (contA (ofList ((runL L i (j + 1)).map (· % 256))) = contA fun l => decide (l = lj) || ofList ((runL L i j).map (· % 256)) l) := (by
                  rw [hsn, List.map_append]
                  show contA (ofList (_ ++ [xj % 256])) = _
                  rw [ofList_snoc2, hlj])
                generalize ofList ((runL L i j).map (· % 256)) = q at hhj HSN
                have hset := contA_with q lj
                rw [← or_two q lj] at hset
                have hgt := (hhj.cell (lj / 8)).trans (contA_get q (lj / 8) (by omega))
                have hfz := hhj.frozen (lj / 8)
                clear hxj hlj hsn
                go_wp2_with fail
                exact ⟨⟨j + 1, by simp, by omega, by omega, (hhj.set _ _).congr (hset.trans HSN.out.symm), hOj.set _ _⟩, by simp [intOf]; omega⟩
              · obtain rfl : j = k := by omega
                have hjlti : ¬ (j : Int) < j := by omega
                have hgne : some w5.heap.size ≠ v5.ownBlock := fun e => (row_not2 hown7 hh6 (by decide)) e
                have hownW := ownsRow_only hown7 hOj hgne
                have hBB := bitB_len (ofList ((runL L i j).map (· % 256)))
                have HQ0 : ∃ q, ofList ((runL L i j).map (· % 256)) = q := ⟨_, rfl⟩
                obtain ⟨q, hq⟩ := HQ0
                rw [hq] at hhj hBB
                have HQ : Hid (ofList ((runL L i j).map (· % 256)) = q) := hq
                clear hq hOj hown7 hB6 hh6 hB56 hgne
                generalize wr = wq at *
                go_wp2_with fail
                go_loopw [3, 11] (fun bv y wl => ∃ t : Nat, y = .int .i64 (t : Nat) ∧ t ≤ 32 ∧ wl.ownsRow w.heap.size 5 1 bv (Y ++ headB u m ++ (bitB q).take t).length (Lib.byteCells (Y ++ headB u m ++ (bitB q).take t)) ∧ Holds wl w5.heap.size 74 (contA q) ∧ Below w.heap.size w wl) (fun _ y _ => 32 - (intOf y).toNat)
                case atStart => exact ⟨0, rfl, by omega, by rw [List.take_zero, List.append_nil]; exact hownW, hhj, hBj⟩
                case round =>
                  obtain ⟨t, rfl, ht, hownt, hht, hBt⟩ := hrel
                  have hszt := hBt.size
                  by_cases htl : t < 32
                  · have htli : (t : Int) < 32 := by omega
                    have ht0 : (0 : Int) ≤ t := by omega
                    have hgt := (hht.cell t).trans (contA_get q t htl)
                    have hb2 := bt_lt q t
                    have hsn : Y ++ headB u m ++ (bitB q).take (t + 1) = Y ++ headB u m ++ (bitB q).take t ++ [UInt8.ofNat (bt q t)] := by
                      rw [List.take_succ_eq_append_getElem (by omega), ← List.append_assoc]
                      simp [bitB]
                    have HSN : Hid _ := hsn
                    have hZl : (Y ++ headB u m ++ (bitB q).take t).length ≤ 301990200 := by
                      rw [List.length_append, List.length_append, hhl, List.length_take]
                      omega
                    generalize Y ++ headB u m ++ (bitB q).take t = Z at hownt hZl HSN
                    generalize bt q t = bb at hgt hb2 HSN
                    clear hsn
                    have hnr := row_not2 hownt hht (by decide)
                    have HNR : Hid _ := hnr
                    clear hnr
                    go_wp2_with (first
                      | (at_builtin; refine wpList_append_own _ rfl _ _ 86 rfl w.heap.size 5 i0 (.int .u8 0) 1 1 underBytes hi hz0 hz1 hz2 rfl (by decide) _ _ _ rfl (hownt.alloc _) ⟨wr.heap.size, 0, none⟩ 1 1 [.int .u8 (bb : Nat)] rfl rfl (cells_new _ _ _) (by simp [Value.oneCell']) (by unfold maxLen; omega) (by omega) (by simp; omega) ?_; intro v6 w6 hown8 hgrow8 hnil8))
                    refine ⟨⟨t + 1, by simp, by omega, ?_, grown_holds hgrow8 hht HNR.out, (hBt.alloc hszt _).grown hgrow8 (by simp; omega) (fun k e => (hownt.lt k e).1)⟩, by simp [intOf]; omega⟩
                    rw [HSN.out, cells_snoc _ _ hb2, List.length_append]
                    exact hown8
                  · obtain rfl : t = 32 := by omega
                    go_wp2_with fail
                    refine ⟨⟨j, by simp, hkl, ?_, ?_, hBt⟩, by simp [intOf]; omega⟩
                    · exact fun z hz => absurd (List.getElem?_eq_some_iff.1 hz).1 (by omega)
                    · have h32' : ¬ j - i ≤ 32 := by have := HMM.out; omega
                      have hby := run_bytes HR.out (by rw [NU_eq]; exact HU8.out) hne hkl HA.out HUP.out
                      rw [run_bits HR.out hne hkl HA.out HUP.out h32', HY.out, HMM.out, HQ.out] at hby
                      rw [List.take_of_length_le (by omega)] at hownt
                      rw [hby]; exact hownt
    · obtain rfl : i = L.length := by omega
      have hli : ¬ (L.length : Int) < n := by omega
      rw [List.take_length] at hown
      have hcv : (convert 86 9 u3).run Try.prog wr = .ok (.string ⟨(bytesM (ofN L)).toArray⟩) wr := by
        rcases hown.2 with ⟨e, h0⟩ | ⟨g, cap, cur, e, hlt2, hb2, _⟩
        · subst e
          have e2 := List.eq_nil_of_length_eq_zero h0
          rw [e2]
          exact run_convert_bytes_back wr 86 9 5 ⟨0, 0, none⟩ 0 [] underBytes (by kernel_rfl) (by kernel_rfl) (fun j hj => by simp at hj)
        · subst e
          refine run_convert_bytes_back wr 86 9 5 ⟨g, 0, none⟩ cap _ underBytes (by kernel_rfl) (by kernel_rfl) (fun j hj => ?_)
          exact hown.cells (g := g) rfl j _ (by unfold Lib.byteCells; rw [List.getElem?_map, List.getElem?_eq_getElem hj]; rfl)
      clear hown hah hb0
      generalize hYY : bytesM (ofN L) = Y at hcv
      have HYY : Hid (bytesM (ofN L) = Y) := hYY
      clear hYY
      go_wp2_with fail
      go_ret
      exact ⟨by rw [HYY.out]; rfl, hBr⟩
end Go.Proofs.Ytiokbhbggpibpaa
