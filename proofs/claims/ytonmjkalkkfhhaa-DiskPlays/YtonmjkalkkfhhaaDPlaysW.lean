/-
  DiskPlays' walk.
-/
import Derived.Test.YtonmjkalkkfhhaaDDuo
import Derived.Test.YtonmjkalkkfhhaaDOps2
namespace Go.Proofs.Ytonmjkalkkfhhaa
open Go Go.RowKit Go.Maps

section
variable {ops : Array Oper} {C : World → Prop} {Q : Exit → Act → World → Prop} {t : List Plan} {k : Nat} {op : Oper} {a : Act} {w : World}
/-- As 'plan_val', of an operation with a guard. -/
theorem plan_valG (d : Option Tmp) (hdd : op.dst = d) (hk : ops[k]?.getD default = op) (hw : Region.wanted op (yielded ops a.tmps) = true) (v : Value) (hv : ∀ w, (execOp a.eval op).run Try.prog w = .ok (.value v) w) (h : wpPlan Try.prog ops C Q t (a.put d v) w) : wpPlan Try.prog ops C Q (.take k :: t) a w :=
  ⟨by rw [hk]; exact hw, v, fun w' _ => by rw [hk]; exact hv w', by rw [hk, hdd]; exact h⟩
theorem plan_ldG (d : Option Tmp) (hdd : op.dst = d) (hk : ops[k]?.getD default = op) (hw : Region.wanted op (yielded ops a.tmps) = true) (ty : TypeId) (x : Operand) (ho : op.op = .load ty x) {ad : Addr} (hx : a.eval x = .pointer (some ad)) {v : Value} (hh : ∀ w, C w → (loadVar ty ad).run Try.prog w = .ok v w)
    (h : wpPlan Try.prog ops C Q t (a.put d v) w) : wpPlan Try.prog ops C Q (.take k :: t) a w := by
  refine ⟨by rw [hk]; exact hw, v, fun w' hC => ?_, by rw [hk, hdd]; exact h⟩
  rw [hk]
  unfold execOp
  simp only [ho, hx, Instr.loadAt, Instr.sureAddr, Sem.run_bind, Sem.run_pure, Result.andThen_ok, hh w' hC]
theorem plan_callG (d : Option Tmp) (hdd : op.dst = d) (hk : ops[k]? = some op) (hw : Region.wanted op (yielded ops a.tmps) = true) {f : FuncId} {vs : Array Value} (hf : (execOp a.eval op).run Try.prog w = .ok (.enter f vs) w) (hc : Calls Try.prog f vs w fun e w' => ∃ v, e = .returned v ∧ C w' ∧ wpPlan Try.prog ops C Q t (a.put d v) w') : wpPlan Try.prog ops C Q (.one k :: t) a w := by
  show wpOp Try.prog ops Q k _ a w
  unfold wpOp
  rw [hk]
  dsimp only
  rw [if_pos hw]
  left
  unfold Oper.wp
  rw [hf]
  refine Calls.mono hc ?_
  rintro e w' ⟨v, rfl, h1, h2⟩
  rw [← hdd] at h2
  exact ⟨h1, h2⟩
end
theorem ldInt {w : World} {ad : Addr} {x : Int} (h : w.cell? ad = some (.int .i64 x)) : (loadVar 3 ad).run Try.prog w = .ok (.int .i64 x) w := by simp [go_sem, h]
theorem ldBool {w : World} {ad : Addr} {x : Bool} (h : w.cell? ad = some (.bool x)) : (loadVar 4 ad).run Try.prog w = .ok (.bool x) w := by simp [go_sem, h]
theorem run_notD (o : Bool) (w : World) : (Op.unary UnOp.not (.bool o)).run Try.prog w = .ok (.bool (!o)) w := rfl
theorem not_same (o : Bool) : ((!o) == o) = false := by cases o <;> rfl
theorem below_drewP (w : World) : Below w.heap.size w w.drew := ⟨rfl, rfl, rfl, Nat.le_refl _, fun _ _ => rfl⟩
theorem dev_arm {D : Dev} {i : Nat} (h : D.ok i) (n : Int) (hn : i64In n) : ({ D with armed := true, left := max n 0 } : Dev).ok (i + 1) := by
  have h' := h.mono (Nat.le_succ i)
  exact ⟨h'.size, h'.keys, h'.texts, h'.writes, h'.many, h'.ops, ⟨by show 0 ≤ max n 0; omega, by show max n 0 ≤ _; have := hn.2; omega⟩, h'.count⟩
theorem dev_limit {D : Dev} {i : Nat} (h : D.ok i) (n : Int) : ({ D with size := keptP n } : Dev).ok (i + 1) := by
  have h' := h.mono (Nat.le_succ i)
  exact ⟨kept_in n, h'.keys, h'.texts, h'.writes, h'.many, h'.ops, h'.left, h'.count⟩
theorem dev_clear {D : Dev} {i : Nat} (h : D.ok i) : ({ D with armed := false, left := 0, fails := fun _ => Option.none, count := 0 } : Dev).ok (i + 1) := by
  have h' := h.mono (Nat.le_succ i)
  exact ⟨h'.size, h'.keys, h'.texts, h'.writes, h'.many, h'.ops, zero_in, ⟨Int.le_refl _, by show (0 : Int) ≤ _; omega⟩⟩
theorem dev_fail {D : Dev} {i : Nat} (h : D.ok i) (l : List Int) : ({ D with fails := failsOf l, count := 0 } : Dev).ok (i + 1) := by
  have h' := h.mono (Nat.le_succ i)
  exact ⟨h'.size, h'.keys, h'.texts, h'.writes, h'.many, h'.ops, h'.left, ⟨Int.le_refl _, by show (0 : Int) ≤ _; omega⟩⟩
/-- The walk rests here. -/
def Halt (p : Prop) : Prop := p
theorem Halt.out {p : Prop} (h : Halt p) : p := h
set_option maxRecDepth 100000 in
set_option maxHeartbeats 16000000 in
theorem plays_walk {w : World} (a0 : Int) {p : Option Addr} {n c : Nat} {L : List OpF} (hx : OpsFull w p n L) (hnc : n ≤ c) (hc : c ≤ 9223372036854775807) :
    Calls Try.prog 3 #[.int .i64 a0, .slice p n c] w fun e w' => e = .returned (.bool true) ∧ Below w.heap.size w w' := by
  have hq := ptr_eql
  have hq2 := ptr_neq
  have hnot := run_notD
  have hsame := not_same
  have HNL : Hid (n = L.length) := hx.1
  have hni : (n : Int) ≤ 9223372036854775807 := by omega
  go_enter Try.func3, Try.ntmps3
  go_wp2_with fail
  refine (awake_any _).mono ?_
  rintro e wa ⟨rfl, hBa⟩
  go_wp2_with fail
  refine (duo_new hBa a0).mono ?_
  rintro e wb ⟨h0, rfl, at0, hf0, hB0⟩
  go_wp2_with fail
  refine (duo_rnew at0 hf0 hB0 a0).mono ?_
  rintro e wc ⟨rb0, rfl, duo0⟩
  have sim0 := Sim.new a0
  have okD0 := Dev.new_ok a0 0
  have okR0 := RDev.new_ok a0 0
  have hfl0 : (RDev.new a0).fails.length ≤ 17592186044416 := Nat.zero_le _
  generalize Dev.new a0 = D0 at duo0 sim0 okD0
  generalize RDev.new a0 = R0 at duo0 sim0 okR0 hfl0
  generalize h0.b = b0 at duo0 ⊢
  clear at0 hf0 hB0 hBa
  have F0 : Hid (Duo w wc b0 rb0 D0 R0 ∧ Sim D0 R0 ∧ D0.ok 0 ∧ R0.ok 0 ∧ R0.fails.length ≤ 17592186044416) := ⟨duo0, sim0, okD0, okR0, hfl0⟩
  clear duo0 sim0 okD0 okR0 hfl0
  go_wp2_with fail
  go_loopw [6, 7, 8] (fun dv rv y wr => ∃ (i b rb : Nat) (D : Dev) (R : RDev), y = .int .i64 (i : Nat) ∧ i ≤ 80 ∧ i ≤ n ∧ dv = .pointer (some ⟨b, 0, none⟩) ∧ rv = .pointer (some ⟨rb, 0, none⟩) ∧ Duo w wr b rb D R ∧ Sim D R ∧ D.ok i ∧ R.ok i ∧ R.fails.length ≤ 17592186044416) (fun _ _ y _ => 80 - (intOf y).toNat)
  case atStart => exact ⟨0, b0, rb0, D0, R0, rfl, by omega, by omega, rfl, rfl, F0.out.1, F0.out.2.1, F0.out.2.2.1, F0.out.2.2.2.1, F0.out.2.2.2.2⟩
  case round =>
    clear F0
    obtain ⟨i, b, rb, D, R, rfl, hi80, hin, rfl, rfl, duo, sim, okD, okR, hfl⟩ := hrel
    by_cases hi : i < n ∧ i < 80
    · obtain ⟨hi1, hi2⟩ := hi
      have hi1i : (i : Int) < n := by omega
      have hi2i : (i : Int) < 80 := by omega
      obtain ⟨t, ht⟩ : ∃ t, L[i]? = some t := ⟨_, List.getElem?_eq_getElem (by have := HNL.out; omega)⟩
      obtain ⟨htk, htn, htl, htc, hta, hti, hts⟩ := hx.2.1 _ (List.mem_of_getElem? ht)
      obtain ⟨gb, go, rfl, d0, d1, d2, d3⟩ := hx.at duo.all ht
      obtain ⟨kd, nn, by_, lp, lm, lc, ll⟩ := t
      dsimp only at htk htn htl htc hta hti hts d0 d1 d2 d3
      unfold i64In at htk htn hta
      subst htl
      obtain ⟨g, hg⟩ : ∃ g, wr.heap.size = g := ⟨_, rfl⟩
      obtain ⟨W1, hW1⟩ : ∃ W, wr.alloc (.cells #[.int .i64 kd, .int .i64 nn, .int .u8 (by_.toNat : Nat), .slice lp ll.length lc] 30) = W := ⟨_, rfl⟩
      have hB1 : Below wr.heap.size wr W1 := by rw [← hW1]; exact below_new1 _ _
      have q1 : Holds W1 g 30 #[.int .i64 kd, .int .i64 nn, .int .u8 (by_.toNat : Nat), .slice lp ll.length lc] := by rw [← hW1, ← hg]; exact Holds.new _ _ _
      have du1 := duo.next hB1
      have e10 : W1.cell? ⟨g, 0, none⟩ = some (.int .i64 kd) := q1.cell 0
      have e11 : W1.cell? ⟨g, 1, none⟩ = some (.int .i64 nn) := q1.cell 1
      have e12' : W1.cell? ⟨g, 2, none⟩ = some (.int .u8 (by_.toNat : Nat)) := q1.cell 2
      have e13 : W1.cell? ⟨g, 3, none⟩ = some (.slice lp ll.length lc) := q1.cell 3
      have hk8a := Int.tmod_lt_of_pos kd (show (0 : Int) < 12 by decide)
      have hk8b := Int.lt_tmod_of_pos kd (show (0 : Int) < 12 by decide)
      clear duo hx ht HNL
      by_cases hkneg : kd.tmod 12 < 0
      · obtain ⟨K, hkv⟩ : ∃ K : Nat, kd.tmod 12 + 12 = (K : Int) := ⟨(kd.tmod 12 + 12).toNat, by omega⟩
        have hK12 : K < 12 := by omega
        clear hk8a
        go_wp2_with ((with_reducible show wpList _ _ _ (Oper.mk (some 72) _ _ _ _ _ :: _) _ _); refine Halt.out ?_)
        rename_i K3 hK3 K2 hK2 K1 hK1 K0 hK0
        have HK2 : ∀ (x9 x10 x12 x13 x14 x15 x16 x17 x40 x41 x42 x43 x44 x45 x46 x47 x48 x49 x50 x51 x52 x53 x54 x55 x56 x57 x58 x59 x60 x61 x62 x63 x64 x65 x66 x67 x68 x69 x70 x71 x72 x73 x74 x75 x76 x77 x78 x79 x80 x81 x82 x83 x84 x85 x86 x87 x88 x89 x90 x91 x92 x93 x94 x95 x96 x97 x98 x99 x100 x101 x102 x103 x104 x105 x106 x107 x108 x109 x110 x111 x112 x113 x114 x115 x116 x117 x118 x119 x120 x121 x122 x123 x124 x125 x126 x127 x128 x129 x130 x131 x132 x133 x134 x135 x136 x137 x138 x139 x140 x141 x142 x143 x144 x145 x146 x147 x148 x149 x150 x151 x152 x153 x154 x155 x156 x157 x158 x159 x160 x161 x162 : Value) (b rb : Nat) (D2 : Dev) (R2 : RDev) (w9 : World), Duo w w9 b rb D2 R2 → Sim D2 R2 → D2.ok (i + 1) → R2.ok (i + 1) → R2.fails.length ≤ 17592186044416 → K2 { tmps := #[.int .i64 a0, .slice (some ⟨gb, go, none⟩) n c, undef, undef, u4, .bool true, .pointer (some ⟨b, 0, none⟩), .pointer (some ⟨rb, 0, none⟩), .int .i64 (i : Int), x9, x10, .bool true, x12, x13, x14, x15, x16, x17, undef, undef, undef, undef, undef, .bool true, .int .i64 a0, .pointer (some ⟨b0, 0, none⟩), .int .i64 a0, .pointer (some ⟨rb0, 0, none⟩), .pointer (some ⟨b0, 0, none⟩), .bool false, .int .i64 (i : Int), .slice (some ⟨gb, go, none⟩) n c, .int .i64 (n : Int), .bool true, .bool true, .int .i64 (i : Int), .bool true, .bool true, u38, u39, x40, x41, x42, x43, x44, x45, x46, x47, x48, x49, x50, x51, x52, x53, x54, x55, x56, x57, x58, x59, x60, x61, x62, x63, x64, x65, x66, x67, x68, x69, x70, x71, x72, x73, x74, x75, x76, x77, x78, x79, x80, x81, x82, x83, x84, x85, x86, x87, x88, x89, x90, x91, x92, x93, x94, x95, x96, x97, x98, x99, x100, x101, x102, x103, x104, x105, x106, x107, x108, x109, x110, x111, x112, x113, x114, x115, x116, x117, x118, x119, x120, x121, x122, x123, x124, x125, x126, x127, x128, x129, x130, x131, x132, x133, x134, x135, x136, x137, x138, x139, x140, x141, x142, x143, x144, x145, x146, x147, x148, x149, x150, x151, x152, x153, x154, x155, x156, x157, x158, x159, x160, x161, x162, u163, u164, u165, u166, u167, u168, u169, u170, u171, u172, u173, u174, u175, u176, u177, u178, u179, u180, u181, u182, u183, u184, u185, u186, u187, u188, u189, u190, u191, u192, u193, u194, u195, u196, u197, u198, undef, undef, undef, undef, undef, undef, undef, undef, undef, undef, undef, undef, undef, undef, undef, undef, undef, undef, undef, undef, undef, undef, undef, undef, undef, undef, undef, undef, undef], defers := [] } w9 := by
          intro x9 x10 x12 x13 x14 x15 x16 x17 x40 x41 x42 x43 x44 x45 x46 x47 x48 x49 x50 x51 x52 x53 x54 x55 x56 x57 x58 x59 x60 x61 x62 x63 x64 x65 x66 x67 x68 x69 x70 x71 x72 x73 x74 x75 x76 x77 x78 x79 x80 x81 x82 x83 x84 x85 x86 x87 x88 x89 x90 x91 x92 x93 x94 x95 x96 x97 x98 x99 x100 x101 x102 x103 x104 x105 x106 x107 x108 x109 x110 x111 x112 x113 x114 x115 x116 x117 x118 x119 x120 x121 x122 x123 x124 x125 x126 x127 x128 x129 x130 x131 x132 x133 x134 x135 x136 x137 x138 x139 x140 x141 x142 x143 x144 x145 x146 x147 x148 x149 x150 x151 x152 x153 x154 x155 x156 x157 x158 x159 x160 x161 x162 b rb D2 R2 w9 du si okd okr hfl
          clear hK1 hK0 q1 e10 e11 e12' e13 du1 sim okD okR hB1 hW1
          as_aux_lemma =>
            go_at_K
            go_wp2_with fail
            obtain ⟨vl9, vp9, vf9, hcl⟩ := du.cells
            have hC9 : ∀ W, Below w9.heap.size w9 W → Holds W rb 45 (rcells vl9 vp9 vf9 R2) := fun W hW => below_holds hW hcl
            refine wp_region_plan (fun W => Below w9.heap.size w9 W) [.take 0, .take 1, .take 2, .take 3, .take 5, .take 6, .take 7, .take 8, .one 4, .take 9, .take 10, .take 11, .take 12, .take 14, .take 15, .take 16, .take 17, .one 13, .take 18, .take 19, .take 20, .take 21, .take 23, .one 22, .one 24, .take 25, .take 26, .take 27, .take 28, .take 30, .take 31, .take 32, .take 33, .one 29, .take 34, .take 35] mixedP (by kernel_rfl) rfl (by kernel_rfl) (fun _ _ _ d _ h => by cases d <;> exact h) (below_drewP _) ?_
            refine plan_valG (some 163) rfl rfl rfl (.bool true) (fun _ => by go_simp) ?_
            go_frame
            refine plan_valG (some 164) rfl rfl rfl (.bool false) (fun _ => by go_simp) ?_
            go_frame
            refine plan_valG (some 165) rfl rfl rfl (.bool false) (fun _ => by go_simp) ?_
            go_frame
            refine plan_valG (some 166) rfl rfl rfl (.pointer (some ⟨b, 0, none⟩)) (fun _ => by go_simp) ?_
            go_frame
            refine plan_valG (some 168) rfl rfl rfl (.pointer (some ⟨rb, 0, none⟩)) (fun _ => by go_simp) ?_
            go_frame
            refine plan_valG (some 169) rfl rfl rfl (.pointer (some ⟨rb, 0, none⟩)) (fun _ => by go_simp) ?_
            go_frame
            refine plan_valG (some 170) rfl rfl rfl (.pointer (some ⟨rb, 3, none⟩)) (fun _ => by go_simp) ?_
            go_frame
            refine plan_ldG (some 171) rfl rfl rfl _ _ rfl rfl (v := .bool R2.off) (fun W hW => ldBool ((hC9 W hW).cell 3)) ?_
            go_frame
            have don := duo_on (du.next (below_drewP _))
            rw [si.off] at don
            refine plan_callG (some 167) rfl rfl rfl (f := 31) (vs := #[.pointer (some ⟨b, 0, none⟩)]) (by go_simp) (don.mono ?_)
            rintro e wq ⟨rfl, rfl⟩
            clear don
            refine ⟨_, rfl, below_drewP _, ?_⟩
            go_frame
            refine plan_valG (some 172) rfl rfl rfl (.bool false) (fun _ => by go_simp) ?_
            go_frame
            refine plan_valG (some 173) rfl rfl rfl (.bool false) (fun _ => by go_simp) ?_
            go_frame
            refine plan_valG (some 174) rfl rfl rfl (.bool false) (fun _ => by go_simp) ?_
            go_frame
            refine plan_valG (some 175) rfl rfl rfl (.pointer (some ⟨b, 0, none⟩)) (fun _ => by go_simp) ?_
            go_frame
            refine plan_valG (some 177) rfl rfl rfl (.pointer (some ⟨rb, 0, none⟩)) (fun _ => by go_simp) ?_
            go_frame
            refine plan_valG (some 178) rfl rfl rfl (.pointer (some ⟨rb, 0, none⟩)) (fun _ => by go_simp) ?_
            go_frame
            refine plan_valG (some 179) rfl rfl rfl (.pointer (some ⟨rb, 0, none⟩)) (fun _ => by go_simp) ?_
            go_frame
            refine plan_ldG (some 180) rfl rfl rfl _ _ rfl rfl (v := .int .i64 R2.most) (fun W hW => ldInt ((hC9 W hW).cell 0)) ?_
            go_frame
            have dpg := duo_pages (du.next (below_drewP _))
            rw [si.size] at dpg
            refine plan_callG (some 176) rfl rfl rfl (f := 32) (vs := #[.pointer (some ⟨b, 0, none⟩)]) (by go_simp) (dpg.mono ?_)
            rintro e wq ⟨rfl, rfl⟩
            clear dpg
            refine ⟨_, rfl, below_drewP _, ?_⟩
            go_frame
            refine plan_valG (some 181) rfl rfl rfl (.bool false) (fun _ => by go_simp) ?_
            go_frame
            refine plan_valG (some 182) rfl rfl rfl (.bool false) (fun _ => by go_simp) ?_
            go_frame
            refine plan_valG (some 183) rfl rfl rfl (.bool false) (fun _ => by go_simp) ?_
            go_frame
            refine plan_valG (some 184) rfl rfl rfl (.pointer (some ⟨b, 0, none⟩)) (fun _ => by go_simp) ?_
            go_frame
            refine plan_valG (some 186) rfl rfl rfl (.pointer (some ⟨rb, 0, none⟩)) (fun _ => by go_simp) ?_
            go_frame
            refine plan_callG (some 185) rfl rfl rfl (f := 33) (vs := #[.pointer (some ⟨b, 0, none⟩)]) (by go_simp) ((duo_used (du.next (below_drewP _)) okd).mono ?_)
            rintro e wu ⟨nu, rfl, hu1, hBu⟩
            refine ⟨_, rfl, below_new (below_drewP _) hBu, ?_⟩
            go_frame
            have du9 := (du.next (below_drewP _)).next hBu
            refine plan_callG (some 187) rfl rfl rfl (f := 34) (vs := #[.pointer (some ⟨rb, 0, none⟩)]) (by go_simp) ((duo_rused du9 okr (by omega) si).mono ?_)
            rintro e wq ⟨nu2, rfl, hu2, rfl⟩
            obtain rfl := hu1.inj hu2
            refine ⟨_, rfl, below_new (below_drewP _) hBu, ?_⟩
            go_frame
            refine plan_valG (some 188) rfl rfl rfl (.bool false) (fun _ => by go_simp) ?_
            go_frame
            refine plan_valG (some 189) rfl rfl rfl (.bool false) (fun _ => by go_simp) ?_
            go_frame
            refine plan_valG (some 190) rfl rfl rfl (.bool false) (fun _ => by go_simp) ?_
            go_frame
            refine plan_valG (some 191) rfl rfl rfl (.pointer (some ⟨b, 0, none⟩)) (fun _ => by go_simp) ?_
            go_frame
            refine plan_valG (some 193) rfl rfl rfl (.pointer (some ⟨rb, 0, none⟩)) (fun _ => by go_simp) ?_
            go_frame
            refine plan_valG (some 194) rfl rfl rfl (.pointer (some ⟨rb, 0, none⟩)) (fun _ => by go_simp) ?_
            go_frame
            refine plan_valG (some 195) rfl rfl rfl (.pointer (some ⟨rb, 4, none⟩)) (fun _ => by go_simp) ?_
            go_frame
            refine plan_ldG (some 196) rfl rfl rfl _ _ rfl rfl (v := .int .i64 R2.done) (fun W hW => ldInt ((hC9 W hW).cell 4)) ?_
            go_frame
            have dop := duo_ops du9
            rw [si.ops] at dop
            refine plan_callG (some 192) rfl rfl rfl (f := 35) (vs := #[.pointer (some ⟨b, 0, none⟩)]) (by go_simp) (dop.mono ?_)
            rintro e wq ⟨rfl, rfl⟩
            clear dop
            refine ⟨_, rfl, below_new (below_drewP _) hBu, ?_⟩
            go_frame
            refine plan_valG (some 197) rfl rfl rfl (.bool false) (fun _ => by go_simp) ?_
            go_frame
            refine plan_valG (some 198) rfl rfl rfl (.bool false) (fun _ => by go_simp) ?_
            go_frame
            refine then_normalD ?_
            go_at_K
            have F9 : Hid (Duo w wq b rb D2 R2 ∧ Sim D2 R2 ∧ D2.ok (i + 1) ∧ R2.ok (i + 1) ∧ R2.fails.length ≤ 17592186044416) := ⟨du9, si, okd, okr, hfl⟩
            clear du9 du si okd okr hfl hC9 hcl hBu hu1 hu2
            go_wp2_with fail
            go_roundw
            case rel => exact ⟨i + 1, b, rb, D2, R2, by go_num, by omega, by omega, rfl, rfl, F9.out.1, F9.out.2.1, F9.out.2.2.1, F9.out.2.2.2.1, F9.out.2.2.2.2⟩
            case measure => simp [intOf]; omega
        clear hK2
        unfold Halt
        have hKs : K = 3 ∨ K = 4 ∨ K = 5 ∨ K = 6 ∨ K = 7 ∨ K = 8 ∨ K = 9 ∨ K = 10 ∨ K = 11 ∨ K < 3 := by omega
        rcases hKs with hk | hk | hk | hk | hk | hk | hk | hk | hk | hk
        · subst hk
          change _ = (3 : Int) at hkv
          as_aux_lemma =>
            obtain ⟨hr1, hr2, hr3⟩ := sim.read nn
            have hd1 := duo_read du1 okD (by omega) nn htn
            have hd2 := fun W (d : Duo w W b rb (D.read nn).2.2 R) => duo_rread d okR (by omega) nn
            rw [← hr1, ← hr2] at hd2
            have okd := read_ok okD nn
            have okr := okR.read nn
            have hfr : (R.read nn).2.2.fails = R.fails := by
              unfold RDev.read
              split <;> exact (begin_most R _).2
            rw [← hfr] at hfl
            generalize hD2 : (D.read nn).2.2 = D2 at hd1 hd2 hr3 okd
            generalize hR2 : (R.read nn).2.2 = R2 at hd2 hr3 okr hfl
            generalize (D.read nn).1 = tx at hd1 hd2
            generalize (D.read nn).2.1 = er at hd1 hd2
            have si := hr3
            clear hr1 hr2 hr3 hfr hD2 hR2 sim okD okR
            go_wp2_with fail
            refine hd1.mono ?_
            rintro e w2 ⟨rfl, du2, ko2⟩
            clear hd1
            have q2 := ko2 _ _ q1
            have e12 : w2.cell? ⟨g, 1, none⟩ = some (.int .i64 nn) := q2.cell 1
            have hd3 := hd2 w2 du2
            clear hd2
            go_wp2_with fail
            refine hd3.mono ?_
            rintro e w9 ⟨rfl, du, _⟩
            clear hd3 q2 e12 ko2 du2 q1 e10 e11 e12' e13 du1
            go_wp2_with fail
            exact HK2 _ _ _ _ _ _ _ _ _ _ _ _ _ _ _ _ _ _ _ _ _ _ _ _ _ _ _ _ _ _ _ _ _ _ _ _ _ _ _ _ _ _ _ _ _ _ _ _ _ _ _ _ _ _ _ _ _ _ _ _ _ _ _ _ _ _ _ _ _ _ _ _ _ _ _ _ _ _ _ _ _ _ _ _ _ _ _ _ _ _ _ _ _ _ _ _ _ _ _ _ _ _ _ _ _ _ _ _ _ _ _ _ _ _ _ _ _ _ _ _ _ _ _ _ _ _ _ _ _ _ _ _ _ _ _ _ du si okd okr hfl
        · subst hk
          change _ = (4 : Int) at hkv
          as_aux_lemma =>
            obtain ⟨hr1, hr2, hr3⟩ := sim.read nn
            have hd1 := duo_read du1 okD (by omega) nn htn
            have hd2 := fun W (d : Duo w W b rb (D.read nn).2.2 R) => duo_rread d okR (by omega) nn
            rw [← hr1, ← hr2] at hd2
            have okd := read_ok okD nn
            have okr := okR.read nn
            have hfr : (R.read nn).2.2.fails = R.fails := by
              unfold RDev.read
              split <;> exact (begin_most R _).2
            rw [← hfr] at hfl
            generalize hD2 : (D.read nn).2.2 = D2 at hd1 hd2 hr3 okd
            generalize hR2 : (R.read nn).2.2 = R2 at hd2 hr3 okr hfl
            generalize (D.read nn).1 = tx at hd1 hd2
            generalize (D.read nn).2.1 = er at hd1 hd2
            have si := hr3
            clear hr1 hr2 hr3 hfr hD2 hR2 sim okD okR
            go_wp2_with fail
            refine hd1.mono ?_
            rintro e w2 ⟨rfl, du2, ko2⟩
            clear hd1
            have q2 := ko2 _ _ q1
            have e12 : w2.cell? ⟨g, 1, none⟩ = some (.int .i64 nn) := q2.cell 1
            have hd3 := hd2 w2 du2
            clear hd2
            go_wp2_with fail
            refine hd3.mono ?_
            rintro e w9 ⟨rfl, du, _⟩
            clear hd3 q2 e12 ko2 du2 q1 e10 e11 e12' e13 du1
            go_wp2_with fail
            exact HK2 _ _ _ _ _ _ _ _ _ _ _ _ _ _ _ _ _ _ _ _ _ _ _ _ _ _ _ _ _ _ _ _ _ _ _ _ _ _ _ _ _ _ _ _ _ _ _ _ _ _ _ _ _ _ _ _ _ _ _ _ _ _ _ _ _ _ _ _ _ _ _ _ _ _ _ _ _ _ _ _ _ _ _ _ _ _ _ _ _ _ _ _ _ _ _ _ _ _ _ _ _ _ _ _ _ _ _ _ _ _ _ _ _ _ _ _ _ _ _ _ _ _ _ _ _ _ _ _ _ _ _ _ _ _ _ _ du si okd okr hfl
        · subst hk
          change _ = (5 : Int) at hkv
          as_aux_lemma =>
            obtain ⟨hr1, hr3⟩ := sim.sync
            have hd1 := duo_sync du1 okD (by omega)
            have hd2 := fun W (d : Duo w W b rb D.sync.2 R) => duo_rsync d okR (by omega)
            rw [← hr1] at hd2
            have okd := sync_ok okD
            have okr := okR.sync
            have hfr : R.sync.2.fails = R.fails := by
              unfold RDev.sync
              split <;> exact (begin_most R _).2
            rw [← hfr] at hfl
            generalize hD2 : D.sync.2 = D2 at hd1 hd2 hr3 okd
            generalize hR2 : R.sync.2 = R2 at hd2 hr3 okr hfl
            generalize D.sync.1 = er at hd1 hd2
            have si := hr3
            clear hr1 hr3 hfr hD2 hR2 sim okD okR
            go_wp2_with fail
            refine hd1.mono ?_
            rintro e w2 ⟨rfl, du2, ko2⟩
            clear hd1
            have hd3 := hd2 w2 du2
            clear hd2
            go_wp2_with fail
            refine hd3.mono ?_
            rintro e w9 ⟨rfl, du, _⟩
            clear hd3 ko2 du2 q1 e10 e11 e12' e13 du1
            go_wp2_with fail
            exact HK2 _ _ _ _ _ _ _ _ _ _ _ _ _ _ _ _ _ _ _ _ _ _ _ _ _ _ _ _ _ _ _ _ _ _ _ _ _ _ _ _ _ _ _ _ _ _ _ _ _ _ _ _ _ _ _ _ _ _ _ _ _ _ _ _ _ _ _ _ _ _ _ _ _ _ _ _ _ _ _ _ _ _ _ _ _ _ _ _ _ _ _ _ _ _ _ _ _ _ _ _ _ _ _ _ _ _ _ _ _ _ _ _ _ _ _ _ _ _ _ _ _ _ _ _ _ _ _ _ _ _ _ _ _ _ _ _ du si okd okr hfl
        · subst hk
          change _ = (6 : Int) at hkv
          as_aux_lemma =>
            have hd1 := duo_crash du1 okD (by omega) hti rfl htc (by omega)
            go_wp2_with fail
            refine hd1.mono ?_
            rintro e w2 ⟨rfl, du2, ko2⟩
            clear hd1
            have q2 := ko2 _ _ q1
            have e12 : w2.cell? ⟨g, 1, none⟩ = some (.int .i64 nn) := q2.cell 1
            have e32 : w2.cell? ⟨g, 3, none⟩ = some (.slice lp ll.length lc) := q2.cell 3
            have hd2 := duo_rcrash du2 okR (by omega) hti hts sim.full
            go_wp2_with fail
            refine hd2.mono ?_
            rintro e w9 ⟨rfl, du, _⟩
            clear hd2 q2 e12 e32 ko2 du2 q1 e10 e11 e12' e13 du1
            obtain ⟨D2, hD2⟩ : ∃ D2, D2 = D.crash ll := ⟨_, rfl⟩
            obtain ⟨R2, hR2⟩ : ∃ R2, R2 = R.crash ll := ⟨_, rfl⟩
            have si : Sim D2 R2 := by rw [hD2, hR2]; exact sim.crash ll
            have okd : D2.ok (i + 1) := by rw [hD2]; exact (crash_ok okD ll).mono (by omega)
            have okr : R2.ok (i + 1) := by rw [hR2]; exact (okR.crash ll).mono (by omega)
            have hfl2 : R2.fails.length ≤ 17592186044416 := by rw [hR2]; exact Nat.zero_le _
            rw [← hD2, ← hR2] at du
            clear hD2 hR2 sim okD okR hfl
            have hfl := hfl2
            clear hfl2
            go_wp2_with fail
            exact HK2 _ _ _ _ _ _ _ _ _ _ _ _ _ _ _ _ _ _ _ _ _ _ _ _ _ _ _ _ _ _ _ _ _ _ _ _ _ _ _ _ _ _ _ _ _ _ _ _ _ _ _ _ _ _ _ _ _ _ _ _ _ _ _ _ _ _ _ _ _ _ _ _ _ _ _ _ _ _ _ _ _ _ _ _ _ _ _ _ _ _ _ _ _ _ _ _ _ _ _ _ _ _ _ _ _ _ _ _ _ _ _ _ _ _ _ _ _ _ _ _ _ _ _ _ _ _ _ _ _ _ _ _ _ _ _ _ du si okd okr hfl
        · subst hk
          change _ = (7 : Int) at hkv
          as_aux_lemma =>
            have hd1 := duo_arm du1 nn
            go_wp2_with fail
            refine hd1.mono ?_
            rintro e w2 ⟨rfl, du2, ko2⟩
            clear hd1
            have q2 := ko2 _ _ q1
            have e12 : w2.cell? ⟨g, 1, none⟩ = some (.int .i64 nn) := q2.cell 1
            have e32 : w2.cell? ⟨g, 3, none⟩ = some (.slice lp ll.length lc) := q2.cell 3
            have hd2 := duo_rarm du2 nn
            go_wp2_with fail
            refine hd2.mono ?_
            rintro e w9 ⟨rfl, du, _⟩
            clear hd2 q2 e12 e32 ko2 du2 q1 e10 e11 e12' e13 du1
            obtain ⟨D2, hD2⟩ : ∃ D2, D2 = { D with armed := true, left := max nn 0 } := ⟨_, rfl⟩
            obtain ⟨R2, hR2⟩ : ∃ R2, R2 = { R with armed := true, left := max nn 0 } := ⟨_, rfl⟩
            have si : Sim D2 R2 := by rw [hD2, hR2]; exact sim.arm nn
            have okd : D2.ok (i + 1) := by rw [hD2]; exact dev_arm okD nn htn
            have okr : R2.ok (i + 1) := by rw [hR2]; exact (okR.arm nn htn.2).mono (by omega)
            have hfl2 : R2.fails.length ≤ 17592186044416 := by rw [hR2]; exact hfl
            rw [← hD2, ← hR2] at du
            clear hD2 hR2 sim okD okR hfl
            have hfl := hfl2
            clear hfl2
            go_wp2_with fail
            exact HK2 _ _ _ _ _ _ _ _ _ _ _ _ _ _ _ _ _ _ _ _ _ _ _ _ _ _ _ _ _ _ _ _ _ _ _ _ _ _ _ _ _ _ _ _ _ _ _ _ _ _ _ _ _ _ _ _ _ _ _ _ _ _ _ _ _ _ _ _ _ _ _ _ _ _ _ _ _ _ _ _ _ _ _ _ _ _ _ _ _ _ _ _ _ _ _ _ _ _ _ _ _ _ _ _ _ _ _ _ _ _ _ _ _ _ _ _ _ _ _ _ _ _ _ _ _ _ _ _ _ _ _ _ _ _ _ _ du si okd okr hfl
        · subst hk
          change _ = (8 : Int) at hkv
          as_aux_lemma =>
            have hd1 := duo_fail du1 hti (by omega) hta
            go_wp2_with fail
            refine hd1.mono ?_
            rintro e w2 ⟨rfl, du2, ko2⟩
            clear hd1
            have q2 := ko2 _ _ q1
            have e12 : w2.cell? ⟨g, 1, none⟩ = some (.int .i64 nn) := q2.cell 1
            have e32 : w2.cell? ⟨g, 3, none⟩ = some (.slice lp ll.length lc) := q2.cell 3
            have hd2 := duo_rfail du2 hti hts
            go_wp2_with fail
            refine hd2.mono ?_
            rintro e w9 ⟨rfl, du, _⟩
            clear hd2 q2 e12 e32 ko2 du2 q1 e10 e11 e12' e13 du1
            obtain ⟨D2, hD2⟩ : ∃ D2, D2 = { D with fails := failsOf ll, count := 0 } := ⟨_, rfl⟩
            obtain ⟨R2, hR2⟩ : ∃ R2, R2 = { R with fails := ll, since := 0 } := ⟨_, rfl⟩
            have si : Sim D2 R2 := by rw [hD2, hR2]; exact sim.fail ll
            have okd : D2.ok (i + 1) := by rw [hD2]; exact dev_fail okD ll
            have okr : R2.ok (i + 1) := by rw [hR2]; exact (okR.fail ll (by omega)).mono (by omega)
            have hfl2 : R2.fails.length ≤ 17592186044416 := by rw [hR2]; exact hts
            rw [← hD2, ← hR2] at du
            clear hD2 hR2 sim okD okR hfl
            have hfl := hfl2
            clear hfl2
            go_wp2_with fail
            exact HK2 _ _ _ _ _ _ _ _ _ _ _ _ _ _ _ _ _ _ _ _ _ _ _ _ _ _ _ _ _ _ _ _ _ _ _ _ _ _ _ _ _ _ _ _ _ _ _ _ _ _ _ _ _ _ _ _ _ _ _ _ _ _ _ _ _ _ _ _ _ _ _ _ _ _ _ _ _ _ _ _ _ _ _ _ _ _ _ _ _ _ _ _ _ _ _ _ _ _ _ _ _ _ _ _ _ _ _ _ _ _ _ _ _ _ _ _ _ _ _ _ _ _ _ _ _ _ _ _ _ _ _ _ _ _ _ _ du si okd okr hfl
        · subst hk
          change _ = (9 : Int) at hkv
          as_aux_lemma =>
            have hd1 := duo_clear du1
            go_wp2_with fail
            refine hd1.mono ?_
            rintro e w2 ⟨rfl, du2, ko2⟩
            clear hd1
            have q2 := ko2 _ _ q1
            have e12 : w2.cell? ⟨g, 1, none⟩ = some (.int .i64 nn) := q2.cell 1
            have e32 : w2.cell? ⟨g, 3, none⟩ = some (.slice lp ll.length lc) := q2.cell 3
            have hd2 := duo_rclear du2
            go_wp2_with fail
            refine hd2.mono ?_
            rintro e w9 ⟨rfl, du, _⟩
            clear hd2 q2 e12 e32 ko2 du2 q1 e10 e11 e12' e13 du1
            obtain ⟨D2, hD2⟩ : ∃ D2, D2 = { D with armed := false, left := 0, fails := fun _ => Option.none, count := 0 } := ⟨_, rfl⟩
            obtain ⟨R2, hR2⟩ : ∃ R2, R2 = { R with armed := false, left := 0, fails := [] } := ⟨_, rfl⟩
            have si : Sim D2 R2 := by rw [hD2, hR2]; exact sim.clear
            have okd : D2.ok (i + 1) := by rw [hD2]; exact dev_clear okD
            have okr : R2.ok (i + 1) := by rw [hR2]; exact okR.clear.mono (by omega)
            have hfl2 : R2.fails.length ≤ 17592186044416 := by rw [hR2]; exact Nat.zero_le _
            rw [← hD2, ← hR2] at du
            clear hD2 hR2 sim okD okR hfl
            have hfl := hfl2
            clear hfl2
            go_wp2_with fail
            exact HK2 _ _ _ _ _ _ _ _ _ _ _ _ _ _ _ _ _ _ _ _ _ _ _ _ _ _ _ _ _ _ _ _ _ _ _ _ _ _ _ _ _ _ _ _ _ _ _ _ _ _ _ _ _ _ _ _ _ _ _ _ _ _ _ _ _ _ _ _ _ _ _ _ _ _ _ _ _ _ _ _ _ _ _ _ _ _ _ _ _ _ _ _ _ _ _ _ _ _ _ _ _ _ _ _ _ _ _ _ _ _ _ _ _ _ _ _ _ _ _ _ _ _ _ _ _ _ _ _ _ _ _ _ _ _ _ _ du si okd okr hfl
        · subst hk
          change _ = (10 : Int) at hkv
          as_aux_lemma =>
            have hd1 := duo_limit du1 nn
            go_wp2_with fail
            refine hd1.mono ?_
            rintro e w2 ⟨rfl, du2, ko2⟩
            clear hd1
            have q2 := ko2 _ _ q1
            have e12 : w2.cell? ⟨g, 1, none⟩ = some (.int .i64 nn) := q2.cell 1
            have e32 : w2.cell? ⟨g, 3, none⟩ = some (.slice lp ll.length lc) := q2.cell 3
            have hd2 := duo_rlimit du2 nn
            go_wp2_with fail
            refine hd2.mono ?_
            rintro e w9 ⟨rfl, du, _⟩
            clear hd2 q2 e12 e32 ko2 du2 q1 e10 e11 e12' e13 du1
            obtain ⟨D2, hD2⟩ : ∃ D2, D2 = { D with size := keptP nn } := ⟨_, rfl⟩
            obtain ⟨R2, hR2⟩ : ∃ R2, R2 = { R with most := keptP nn } := ⟨_, rfl⟩
            have si : Sim D2 R2 := by rw [hD2, hR2]; exact sim.limit nn
            have okd : D2.ok (i + 1) := by rw [hD2]; exact dev_limit okD nn
            have okr : R2.ok (i + 1) := by rw [hR2]; exact (okR.limit nn).mono (by omega)
            have hfl2 : R2.fails.length ≤ 17592186044416 := by rw [hR2]; exact hfl
            rw [← hD2, ← hR2] at du
            clear hD2 hR2 sim okD okR hfl
            have hfl := hfl2
            clear hfl2
            go_wp2_with fail
            exact HK2 _ _ _ _ _ _ _ _ _ _ _ _ _ _ _ _ _ _ _ _ _ _ _ _ _ _ _ _ _ _ _ _ _ _ _ _ _ _ _ _ _ _ _ _ _ _ _ _ _ _ _ _ _ _ _ _ _ _ _ _ _ _ _ _ _ _ _ _ _ _ _ _ _ _ _ _ _ _ _ _ _ _ _ _ _ _ _ _ _ _ _ _ _ _ _ _ _ _ _ _ _ _ _ _ _ _ _ _ _ _ _ _ _ _ _ _ _ _ _ _ _ _ _ _ _ _ _ _ _ _ _ _ _ _ _ _ du si okd okr hfl
        · subst hk
          change _ = (11 : Int) at hkv
          as_aux_lemma =>
            have hd1 := duo_copy du1 okD (by omega)
            go_wp2_with fail
            refine hd1.mono ?_
            rintro e w2 ⟨c2, rfl, tr2⟩
            clear hd1
            have hd2 := trio_rcopy tr2 okR (by omega) hfl
            go_wp2_with fail
            refine hd2.mono ?_
            rintro e w3 ⟨rc, rfl, tr3⟩
            clear hd2
            go_wp2_with fail
            refine (fill_any 63 _).mono ?_
            rintro e w4 ⟨rfl, hB4⟩
            have tr4 := tr3.next hB4
            have hd4 := trio_write tr4 okD (by omega) 0 (by omega) (fillOf 1024 63)
            have ok4 := write_ok okD 0 (fillOf 1024 63)
            generalize (D.write 0 (fillOf 1024 63)).2 = D4 at hd4 ok4
            generalize (D.write 0 (fillOf 1024 63)).1 = er4 at hd4
            generalize fillOf 1024 63 = S4 at hd4 ⊢
            go_wp2_with fail
            refine hd4.mono ?_
            rintro e w5 ⟨rfl, qu5⟩
            clear hd4
            have hd5 := quad_sync qu5 ok4 (by omega)
            generalize D4.sync.1 = er5 at hd5
            go_wp2_with fail
            refine hd5.mono ?_
            rintro e w9 ⟨rfl, du⟩
            clear hd5 qu5 tr4 tr3 tr2 hB4 q1 e10 e11 e12' e13 du1 ok4
            have si := sim
            have okd : D.ok (i + 1) := okD.mono (by omega)
            have okr : R.ok (i + 1) := okR.mono (by omega)
            clear sim okD okR
            go_wp2_with fail
            exact HK2 _ _ _ _ _ _ _ _ _ _ _ _ _ _ _ _ _ _ _ _ _ _ _ _ _ _ _ _ _ _ _ _ _ _ _ _ _ _ _ _ _ _ _ _ _ _ _ _ _ _ _ _ _ _ _ _ _ _ _ _ _ _ _ _ _ _ _ _ _ _ _ _ _ _ _ _ _ _ _ _ _ _ _ _ _ _ _ _ _ _ _ _ _ _ _ _ _ _ _ _ _ _ _ _ _ _ _ _ _ _ _ _ _ _ _ _ _ _ _ _ _ _ _ _ _ _ _ _ _ _ _ _ _ _ _ _ du si okd okr hfl
        · have hk3 : ((K : Int) == 3) = false := beq_eq_false_iff_ne.2 (by omega)
          have hk4 : ((K : Int) == 4) = false := beq_eq_false_iff_ne.2 (by omega)
          have hk5 : ((K : Int) == 5) = false := beq_eq_false_iff_ne.2 (by omega)
          have hk6 : ((K : Int) == 6) = false := beq_eq_false_iff_ne.2 (by omega)
          have hk7 : ((K : Int) == 7) = false := beq_eq_false_iff_ne.2 (by omega)
          have hk8 : ((K : Int) == 8) = false := beq_eq_false_iff_ne.2 (by omega)
          have hk9 : ((K : Int) == 9) = false := beq_eq_false_iff_ne.2 (by omega)
          have hk10 : ((K : Int) == 10) = false := beq_eq_false_iff_ne.2 (by omega)
          have hk11 : ((K : Int) == 11) = false := beq_eq_false_iff_ne.2 (by omega)
          by_cases h200 : by_ = 200
          · subst h200
            as_aux_lemma =>
              have hW1B : Below wr.heap.size wr W1 := hB1
              go_wp2_with fail
              refine (fill_any (200 : UInt8) _).mono ?_
              rintro e w2 ⟨rfl, hB2⟩
              have du2 := du1.next hB2
              have q2 := below_holds hB2 q1
              have e12 : w2.cell? ⟨g, 1, none⟩ = some (.int .i64 nn) := q2.cell 1
              have e22 : w2.cell? ⟨g, 2, none⟩ = some (.int .u8 ((200 : UInt8).toNat : Nat)) := q2.cell 2
              obtain ⟨S0, hS0⟩ : ∃ S0, S0 = fillOf 1024 (200 : UInt8) := ⟨_, rfl⟩
              rw [← hS0]
              have hS0s : S0.size = 1024 := by rw [hS0]; exact fillOf_size _ _
              clear hS0
              have hS0i : (S0.size : Int) = 1024 := by omega
              obtain ⟨S, hS⟩ : ∃ S, S = S0.extract 1 S0.size := ⟨_, rfl⟩
              obtain ⟨hr1, hr3⟩ := sim.write nn S
              have hd1 := fun W (d : Duo w W b rb D R) => duo_write d okD (by omega) nn htn S
              have hd2 := fun W (d : Duo w W b rb (D.write nn S).2 R) => duo_rwrite d okR (by omega) nn S
              rw [← hr1] at hd2
              have okd := write_ok okD nn S
              have okr := okR.write nn S
              have hfr : (R.write nn S).2.fails = R.fails := by
                unfold RDev.write
                split <;> exact (begin_most R _).2
              rw [← hfr] at hfl
              generalize hD2 : (D.write nn S).2 = D2 at hd1 hd2 hr3 okd
              generalize hR2 : (R.write nn S).2 = R2 at hd2 hr3 okr hfl
              generalize (D.write nn S).1 = er at hd1 hd2
              have si := hr3
              clear hr1 hr3 hfr hD2 hR2 sim okD okR
              go_wp2_with fail
              refine wp_region_plan (fun W => Holds W g 30 #[.int .i64 kd, .int .i64 nn, .int .u8 ((200 : UInt8).toNat : Nat), .slice lp ll.length lc]) [.take 0, .take 1, .take 2, .take 3, .take 5, .take 6, .take 7, .take 8, .one 4, .one 9, .take 10, .one 11] mixedP (by kernel_rfl) rfl (by kernel_rfl) (fun _ _ _ d _ h => by cases d <;> exact h) q2 ?_
              refine plan_valG (some 60) rfl rfl rfl (.pointer (some ⟨b, 0, none⟩)) (fun _ => by go_simp) ?_
              go_frame
              refine plan_valG (some 61) rfl rfl rfl (.pointer (some ⟨g, 1, none⟩)) (fun _ => by go_simp) ?_
              go_frame
              refine plan_ldG (some 62) rfl rfl rfl _ _ rfl rfl (v := .int .i64 nn) (fun W hW => ldInt (hW.cell 1)) ?_
              go_frame
              refine plan_valG (some 63) rfl rfl rfl (.string S) (fun _ => by go_simp) ?_
              go_frame
              refine plan_valG (some 65) rfl rfl rfl (.pointer (some ⟨rb, 0, none⟩)) (fun _ => by go_simp) ?_
              go_frame
              refine plan_valG (some 66) rfl rfl rfl (.pointer (some ⟨g, 1, none⟩)) (fun _ => by go_simp) ?_
              go_frame
              refine plan_ldG (some 67) rfl rfl rfl _ _ rfl rfl (v := .int .i64 nn) (fun W hW => ldInt (hW.cell 1)) ?_
              go_frame
              refine plan_valG (some 68) rfl rfl rfl (.string S) (fun _ => by go_simp) ?_
              go_frame
              refine plan_callG (some 64) rfl rfl rfl (f := 28) (vs := #[.pointer (some ⟨b, 0, none⟩), .int .i64 nn, .string S]) (by go_simp) ((hd1 _ (du2.next (below_drewP _))).mono ?_)
              rintro e w3 ⟨rfl, du3, ko3⟩
              clear hd1
              have q3 := ko3 _ _ q2
              refine ⟨_, rfl, q3, ?_⟩
              go_frame
              refine plan_callG (some 69) rfl rfl rfl (f := 30) (vs := #[.pointer (some ⟨rb, 0, none⟩), .int .i64 nn, .string S]) (by go_simp) ((hd2 _ du3).mono ?_)
              rintro e w9 ⟨rfl, du, ko9⟩
              clear hd2
              have q9 := ko9 _ _ q3
              refine ⟨_, rfl, q9, ?_⟩
              go_frame
              refine plan_valG (some 70) rfl rfl rfl (.bool true) (fun _ => by go_simp) ?_
              go_frame
              refine plan_one (some 11) rfl rfl rfl (v := .bool true) (w' := w9) (by go_simp) q9 ?_
              go_frame
              clear q9 ko9 q3 ko3 q2 e12 e22 du3 du2 hB2 q1 e10 e11 e12' e13 du1 hW1B
              refine inBlock_normal ?_
              refine then_normalD ?_
              go_at_K
              exact HK2 _ _ _ _ _ _ _ _ _ _ _ _ _ _ _ _ _ _ _ _ _ _ _ _ _ _ _ _ _ _ _ _ _ _ _ _ _ _ _ _ _ _ _ _ _ _ _ _ _ _ _ _ _ _ _ _ _ _ _ _ _ _ _ _ _ _ _ _ _ _ _ _ _ _ _ _ _ _ _ _ _ _ _ _ _ _ _ _ _ _ _ _ _ _ _ _ _ _ _ _ _ _ _ _ _ _ _ _ _ _ _ _ _ _ _ _ _ _ _ _ _ _ _ _ _ _ _ _ _ _ _ _ _ _ _ _ du si okd okr hfl
          · have h200i : (((by_.toNat : Nat) : Int) == 200) = false := beq_eq_false_iff_ne.2 (fun q => h200 (UInt8.toNat_inj.1 (by rw [show (200 : UInt8).toNat = 200 from rfl]; omega)))
            clear h200
            as_aux_lemma =>
              have hW1B : Below wr.heap.size wr W1 := hB1
              go_wp2_with fail
              refine (fill_any by_ _).mono ?_
              rintro e w2 ⟨rfl, hB2⟩
              have du2 := du1.next hB2
              have q2 := below_holds hB2 q1
              have e12 : w2.cell? ⟨g, 1, none⟩ = some (.int .i64 nn) := q2.cell 1
              have e22 : w2.cell? ⟨g, 2, none⟩ = some (.int .u8 (by_.toNat : Nat)) := q2.cell 2
              obtain ⟨S0, hS0⟩ : ∃ S0, S0 = fillOf 1024 by_ := ⟨_, rfl⟩
              rw [← hS0]
              have hS0s : S0.size = 1024 := by rw [hS0]; exact fillOf_size _ _
              clear hS0
              obtain ⟨S, hS⟩ : ∃ S, S = S0 := ⟨_, rfl⟩
              rw [← hS]
              clear hS hS0s
              obtain ⟨hr1, hr3⟩ := sim.write nn S
              have hd1 := fun W (d : Duo w W b rb D R) => duo_write d okD (by omega) nn htn S
              have hd2 := fun W (d : Duo w W b rb (D.write nn S).2 R) => duo_rwrite d okR (by omega) nn S
              rw [← hr1] at hd2
              have okd := write_ok okD nn S
              have okr := okR.write nn S
              have hfr : (R.write nn S).2.fails = R.fails := by
                unfold RDev.write
                split <;> exact (begin_most R _).2
              rw [← hfr] at hfl
              generalize hD2 : (D.write nn S).2 = D2 at hd1 hd2 hr3 okd
              generalize hR2 : (R.write nn S).2 = R2 at hd2 hr3 okr hfl
              generalize (D.write nn S).1 = er at hd1 hd2
              have si := hr3
              clear hr1 hr3 hfr hD2 hR2 sim okD okR
              go_wp2_with fail
              refine wp_region_plan (fun W => Holds W g 30 #[.int .i64 kd, .int .i64 nn, .int .u8 (by_.toNat : Nat), .slice lp ll.length lc]) [.take 0, .take 1, .take 2, .take 3, .take 5, .take 6, .take 7, .take 8, .one 4, .one 9, .take 10, .one 11] mixedP (by kernel_rfl) rfl (by kernel_rfl) (fun _ _ _ d _ h => by cases d <;> exact h) q2 ?_
              refine plan_valG (some 60) rfl rfl rfl (.pointer (some ⟨b, 0, none⟩)) (fun _ => by go_simp) ?_
              go_frame
              refine plan_valG (some 61) rfl rfl rfl (.pointer (some ⟨g, 1, none⟩)) (fun _ => by go_simp) ?_
              go_frame
              refine plan_ldG (some 62) rfl rfl rfl _ _ rfl rfl (v := .int .i64 nn) (fun W hW => ldInt (hW.cell 1)) ?_
              go_frame
              refine plan_valG (some 63) rfl rfl rfl (.string S) (fun _ => by go_simp) ?_
              go_frame
              refine plan_valG (some 65) rfl rfl rfl (.pointer (some ⟨rb, 0, none⟩)) (fun _ => by go_simp) ?_
              go_frame
              refine plan_valG (some 66) rfl rfl rfl (.pointer (some ⟨g, 1, none⟩)) (fun _ => by go_simp) ?_
              go_frame
              refine plan_ldG (some 67) rfl rfl rfl _ _ rfl rfl (v := .int .i64 nn) (fun W hW => ldInt (hW.cell 1)) ?_
              go_frame
              refine plan_valG (some 68) rfl rfl rfl (.string S) (fun _ => by go_simp) ?_
              go_frame
              refine plan_callG (some 64) rfl rfl rfl (f := 28) (vs := #[.pointer (some ⟨b, 0, none⟩), .int .i64 nn, .string S]) (by go_simp) ((hd1 _ (du2.next (below_drewP _))).mono ?_)
              rintro e w3 ⟨rfl, du3, ko3⟩
              clear hd1
              have q3 := ko3 _ _ q2
              refine ⟨_, rfl, q3, ?_⟩
              go_frame
              refine plan_callG (some 69) rfl rfl rfl (f := 30) (vs := #[.pointer (some ⟨rb, 0, none⟩), .int .i64 nn, .string S]) (by go_simp) ((hd2 _ du3).mono ?_)
              rintro e w9 ⟨rfl, du, ko9⟩
              clear hd2
              have q9 := ko9 _ _ q3
              refine ⟨_, rfl, q9, ?_⟩
              go_frame
              refine plan_valG (some 70) rfl rfl rfl (.bool true) (fun _ => by go_simp) ?_
              go_frame
              refine plan_one (some 11) rfl rfl rfl (v := .bool true) (w' := w9) (by go_simp) q9 ?_
              go_frame
              clear q9 ko9 q3 ko3 q2 e12 e22 du3 du2 hB2 q1 e10 e11 e12' e13 du1 hW1B
              refine inBlock_normal ?_
              refine then_normalD ?_
              go_at_K
              exact HK2 _ _ _ _ _ _ _ _ _ _ _ _ _ _ _ _ _ _ _ _ _ _ _ _ _ _ _ _ _ _ _ _ _ _ _ _ _ _ _ _ _ _ _ _ _ _ _ _ _ _ _ _ _ _ _ _ _ _ _ _ _ _ _ _ _ _ _ _ _ _ _ _ _ _ _ _ _ _ _ _ _ _ _ _ _ _ _ _ _ _ _ _ _ _ _ _ _ _ _ _ _ _ _ _ _ _ _ _ _ _ _ _ _ _ _ _ _ _ _ _ _ _ _ _ _ _ _ _ _ _ _ _ _ _ _ _ du si okd okr hfl
      · obtain ⟨K, hkv⟩ : ∃ K : Nat, kd.tmod 12 = (K : Int) := ⟨(kd.tmod 12).toNat, by omega⟩
        have hknn : ¬ (K : Int) < 0 := by omega
        have hK12 : K < 12 := by omega
        clear hkneg hk8a hk8b
        go_wp2_with ((with_reducible show wpList _ _ _ (Oper.mk (some 72) _ _ _ _ _ :: _) _ _); refine Halt.out ?_)
        rename_i K3 hK3 K2 hK2 K1 hK1 K0 hK0
        have HK2 : ∀ (x9 x10 x12 x13 x14 x15 x16 x17 x40 x41 x42 x43 x44 x45 x46 x47 x48 x49 x50 x51 x52 x53 x54 x55 x56 x57 x58 x59 x60 x61 x62 x63 x64 x65 x66 x67 x68 x69 x70 x71 x72 x73 x74 x75 x76 x77 x78 x79 x80 x81 x82 x83 x84 x85 x86 x87 x88 x89 x90 x91 x92 x93 x94 x95 x96 x97 x98 x99 x100 x101 x102 x103 x104 x105 x106 x107 x108 x109 x110 x111 x112 x113 x114 x115 x116 x117 x118 x119 x120 x121 x122 x123 x124 x125 x126 x127 x128 x129 x130 x131 x132 x133 x134 x135 x136 x137 x138 x139 x140 x141 x142 x143 x144 x145 x146 x147 x148 x149 x150 x151 x152 x153 x154 x155 x156 x157 x158 x159 x160 x161 x162 : Value) (b rb : Nat) (D2 : Dev) (R2 : RDev) (w9 : World), Duo w w9 b rb D2 R2 → Sim D2 R2 → D2.ok (i + 1) → R2.ok (i + 1) → R2.fails.length ≤ 17592186044416 → K2 { tmps := #[.int .i64 a0, .slice (some ⟨gb, go, none⟩) n c, undef, undef, u4, .bool true, .pointer (some ⟨b, 0, none⟩), .pointer (some ⟨rb, 0, none⟩), .int .i64 (i : Int), x9, x10, .bool true, x12, x13, x14, x15, x16, x17, undef, undef, undef, undef, undef, .bool true, .int .i64 a0, .pointer (some ⟨b0, 0, none⟩), .int .i64 a0, .pointer (some ⟨rb0, 0, none⟩), .pointer (some ⟨b0, 0, none⟩), .bool false, .int .i64 (i : Int), .slice (some ⟨gb, go, none⟩) n c, .int .i64 (n : Int), .bool true, .bool true, .int .i64 (i : Int), .bool true, .bool true, u38, u39, x40, x41, x42, x43, x44, x45, x46, x47, x48, x49, x50, x51, x52, x53, x54, x55, x56, x57, x58, x59, x60, x61, x62, x63, x64, x65, x66, x67, x68, x69, x70, x71, x72, x73, x74, x75, x76, x77, x78, x79, x80, x81, x82, x83, x84, x85, x86, x87, x88, x89, x90, x91, x92, x93, x94, x95, x96, x97, x98, x99, x100, x101, x102, x103, x104, x105, x106, x107, x108, x109, x110, x111, x112, x113, x114, x115, x116, x117, x118, x119, x120, x121, x122, x123, x124, x125, x126, x127, x128, x129, x130, x131, x132, x133, x134, x135, x136, x137, x138, x139, x140, x141, x142, x143, x144, x145, x146, x147, x148, x149, x150, x151, x152, x153, x154, x155, x156, x157, x158, x159, x160, x161, x162, u163, u164, u165, u166, u167, u168, u169, u170, u171, u172, u173, u174, u175, u176, u177, u178, u179, u180, u181, u182, u183, u184, u185, u186, u187, u188, u189, u190, u191, u192, u193, u194, u195, u196, u197, u198, undef, undef, undef, undef, undef, undef, undef, undef, undef, undef, undef, undef, undef, undef, undef, undef, undef, undef, undef, undef, undef, undef, undef, undef, undef, undef, undef, undef, undef], defers := [] } w9 := by
          intro x9 x10 x12 x13 x14 x15 x16 x17 x40 x41 x42 x43 x44 x45 x46 x47 x48 x49 x50 x51 x52 x53 x54 x55 x56 x57 x58 x59 x60 x61 x62 x63 x64 x65 x66 x67 x68 x69 x70 x71 x72 x73 x74 x75 x76 x77 x78 x79 x80 x81 x82 x83 x84 x85 x86 x87 x88 x89 x90 x91 x92 x93 x94 x95 x96 x97 x98 x99 x100 x101 x102 x103 x104 x105 x106 x107 x108 x109 x110 x111 x112 x113 x114 x115 x116 x117 x118 x119 x120 x121 x122 x123 x124 x125 x126 x127 x128 x129 x130 x131 x132 x133 x134 x135 x136 x137 x138 x139 x140 x141 x142 x143 x144 x145 x146 x147 x148 x149 x150 x151 x152 x153 x154 x155 x156 x157 x158 x159 x160 x161 x162 b rb D2 R2 w9 du si okd okr hfl
          clear hK1 hK0 q1 e10 e11 e12' e13 du1 sim okD okR hB1 hW1
          as_aux_lemma =>
            go_at_K
            go_wp2_with fail
            obtain ⟨vl9, vp9, vf9, hcl⟩ := du.cells
            have hC9 : ∀ W, Below w9.heap.size w9 W → Holds W rb 45 (rcells vl9 vp9 vf9 R2) := fun W hW => below_holds hW hcl
            refine wp_region_plan (fun W => Below w9.heap.size w9 W) [.take 0, .take 1, .take 2, .take 3, .take 5, .take 6, .take 7, .take 8, .one 4, .take 9, .take 10, .take 11, .take 12, .take 14, .take 15, .take 16, .take 17, .one 13, .take 18, .take 19, .take 20, .take 21, .take 23, .one 22, .one 24, .take 25, .take 26, .take 27, .take 28, .take 30, .take 31, .take 32, .take 33, .one 29, .take 34, .take 35] mixedP (by kernel_rfl) rfl (by kernel_rfl) (fun _ _ _ d _ h => by cases d <;> exact h) (below_drewP _) ?_
            refine plan_valG (some 163) rfl rfl rfl (.bool true) (fun _ => by go_simp) ?_
            go_frame
            refine plan_valG (some 164) rfl rfl rfl (.bool false) (fun _ => by go_simp) ?_
            go_frame
            refine plan_valG (some 165) rfl rfl rfl (.bool false) (fun _ => by go_simp) ?_
            go_frame
            refine plan_valG (some 166) rfl rfl rfl (.pointer (some ⟨b, 0, none⟩)) (fun _ => by go_simp) ?_
            go_frame
            refine plan_valG (some 168) rfl rfl rfl (.pointer (some ⟨rb, 0, none⟩)) (fun _ => by go_simp) ?_
            go_frame
            refine plan_valG (some 169) rfl rfl rfl (.pointer (some ⟨rb, 0, none⟩)) (fun _ => by go_simp) ?_
            go_frame
            refine plan_valG (some 170) rfl rfl rfl (.pointer (some ⟨rb, 3, none⟩)) (fun _ => by go_simp) ?_
            go_frame
            refine plan_ldG (some 171) rfl rfl rfl _ _ rfl rfl (v := .bool R2.off) (fun W hW => ldBool ((hC9 W hW).cell 3)) ?_
            go_frame
            have don := duo_on (du.next (below_drewP _))
            rw [si.off] at don
            refine plan_callG (some 167) rfl rfl rfl (f := 31) (vs := #[.pointer (some ⟨b, 0, none⟩)]) (by go_simp) (don.mono ?_)
            rintro e wq ⟨rfl, rfl⟩
            clear don
            refine ⟨_, rfl, below_drewP _, ?_⟩
            go_frame
            refine plan_valG (some 172) rfl rfl rfl (.bool false) (fun _ => by go_simp) ?_
            go_frame
            refine plan_valG (some 173) rfl rfl rfl (.bool false) (fun _ => by go_simp) ?_
            go_frame
            refine plan_valG (some 174) rfl rfl rfl (.bool false) (fun _ => by go_simp) ?_
            go_frame
            refine plan_valG (some 175) rfl rfl rfl (.pointer (some ⟨b, 0, none⟩)) (fun _ => by go_simp) ?_
            go_frame
            refine plan_valG (some 177) rfl rfl rfl (.pointer (some ⟨rb, 0, none⟩)) (fun _ => by go_simp) ?_
            go_frame
            refine plan_valG (some 178) rfl rfl rfl (.pointer (some ⟨rb, 0, none⟩)) (fun _ => by go_simp) ?_
            go_frame
            refine plan_valG (some 179) rfl rfl rfl (.pointer (some ⟨rb, 0, none⟩)) (fun _ => by go_simp) ?_
            go_frame
            refine plan_ldG (some 180) rfl rfl rfl _ _ rfl rfl (v := .int .i64 R2.most) (fun W hW => ldInt ((hC9 W hW).cell 0)) ?_
            go_frame
            have dpg := duo_pages (du.next (below_drewP _))
            rw [si.size] at dpg
            refine plan_callG (some 176) rfl rfl rfl (f := 32) (vs := #[.pointer (some ⟨b, 0, none⟩)]) (by go_simp) (dpg.mono ?_)
            rintro e wq ⟨rfl, rfl⟩
            clear dpg
            refine ⟨_, rfl, below_drewP _, ?_⟩
            go_frame
            refine plan_valG (some 181) rfl rfl rfl (.bool false) (fun _ => by go_simp) ?_
            go_frame
            refine plan_valG (some 182) rfl rfl rfl (.bool false) (fun _ => by go_simp) ?_
            go_frame
            refine plan_valG (some 183) rfl rfl rfl (.bool false) (fun _ => by go_simp) ?_
            go_frame
            refine plan_valG (some 184) rfl rfl rfl (.pointer (some ⟨b, 0, none⟩)) (fun _ => by go_simp) ?_
            go_frame
            refine plan_valG (some 186) rfl rfl rfl (.pointer (some ⟨rb, 0, none⟩)) (fun _ => by go_simp) ?_
            go_frame
            refine plan_callG (some 185) rfl rfl rfl (f := 33) (vs := #[.pointer (some ⟨b, 0, none⟩)]) (by go_simp) ((duo_used (du.next (below_drewP _)) okd).mono ?_)
            rintro e wu ⟨nu, rfl, hu1, hBu⟩
            refine ⟨_, rfl, below_new (below_drewP _) hBu, ?_⟩
            go_frame
            have du9 := (du.next (below_drewP _)).next hBu
            refine plan_callG (some 187) rfl rfl rfl (f := 34) (vs := #[.pointer (some ⟨rb, 0, none⟩)]) (by go_simp) ((duo_rused du9 okr (by omega) si).mono ?_)
            rintro e wq ⟨nu2, rfl, hu2, rfl⟩
            obtain rfl := hu1.inj hu2
            refine ⟨_, rfl, below_new (below_drewP _) hBu, ?_⟩
            go_frame
            refine plan_valG (some 188) rfl rfl rfl (.bool false) (fun _ => by go_simp) ?_
            go_frame
            refine plan_valG (some 189) rfl rfl rfl (.bool false) (fun _ => by go_simp) ?_
            go_frame
            refine plan_valG (some 190) rfl rfl rfl (.bool false) (fun _ => by go_simp) ?_
            go_frame
            refine plan_valG (some 191) rfl rfl rfl (.pointer (some ⟨b, 0, none⟩)) (fun _ => by go_simp) ?_
            go_frame
            refine plan_valG (some 193) rfl rfl rfl (.pointer (some ⟨rb, 0, none⟩)) (fun _ => by go_simp) ?_
            go_frame
            refine plan_valG (some 194) rfl rfl rfl (.pointer (some ⟨rb, 0, none⟩)) (fun _ => by go_simp) ?_
            go_frame
            refine plan_valG (some 195) rfl rfl rfl (.pointer (some ⟨rb, 4, none⟩)) (fun _ => by go_simp) ?_
            go_frame
            refine plan_ldG (some 196) rfl rfl rfl _ _ rfl rfl (v := .int .i64 R2.done) (fun W hW => ldInt ((hC9 W hW).cell 4)) ?_
            go_frame
            have dop := duo_ops du9
            rw [si.ops] at dop
            refine plan_callG (some 192) rfl rfl rfl (f := 35) (vs := #[.pointer (some ⟨b, 0, none⟩)]) (by go_simp) (dop.mono ?_)
            rintro e wq ⟨rfl, rfl⟩
            clear dop
            refine ⟨_, rfl, below_new (below_drewP _) hBu, ?_⟩
            go_frame
            refine plan_valG (some 197) rfl rfl rfl (.bool false) (fun _ => by go_simp) ?_
            go_frame
            refine plan_valG (some 198) rfl rfl rfl (.bool false) (fun _ => by go_simp) ?_
            go_frame
            refine then_normalD ?_
            go_at_K
            have F9 : Hid (Duo w wq b rb D2 R2 ∧ Sim D2 R2 ∧ D2.ok (i + 1) ∧ R2.ok (i + 1) ∧ R2.fails.length ≤ 17592186044416) := ⟨du9, si, okd, okr, hfl⟩
            clear du9 du si okd okr hfl hC9 hcl hBu hu1 hu2
            go_wp2_with fail
            go_roundw
            case rel => exact ⟨i + 1, b, rb, D2, R2, by go_num, by omega, by omega, rfl, rfl, F9.out.1, F9.out.2.1, F9.out.2.2.1, F9.out.2.2.2.1, F9.out.2.2.2.2⟩
            case measure => simp [intOf]; omega
        clear hK2
        unfold Halt
        have hKs : K = 3 ∨ K = 4 ∨ K = 5 ∨ K = 6 ∨ K = 7 ∨ K = 8 ∨ K = 9 ∨ K = 10 ∨ K = 11 ∨ K < 3 := by omega
        rcases hKs with hk | hk | hk | hk | hk | hk | hk | hk | hk | hk
        · subst hk
          change _ = (3 : Int) at hkv
          as_aux_lemma =>
            obtain ⟨hr1, hr2, hr3⟩ := sim.read nn
            have hd1 := duo_read du1 okD (by omega) nn htn
            have hd2 := fun W (d : Duo w W b rb (D.read nn).2.2 R) => duo_rread d okR (by omega) nn
            rw [← hr1, ← hr2] at hd2
            have okd := read_ok okD nn
            have okr := okR.read nn
            have hfr : (R.read nn).2.2.fails = R.fails := by
              unfold RDev.read
              split <;> exact (begin_most R _).2
            rw [← hfr] at hfl
            generalize hD2 : (D.read nn).2.2 = D2 at hd1 hd2 hr3 okd
            generalize hR2 : (R.read nn).2.2 = R2 at hd2 hr3 okr hfl
            generalize (D.read nn).1 = tx at hd1 hd2
            generalize (D.read nn).2.1 = er at hd1 hd2
            have si := hr3
            clear hr1 hr2 hr3 hfr hD2 hR2 sim okD okR
            go_wp2_with fail
            refine hd1.mono ?_
            rintro e w2 ⟨rfl, du2, ko2⟩
            clear hd1
            have q2 := ko2 _ _ q1
            have e12 : w2.cell? ⟨g, 1, none⟩ = some (.int .i64 nn) := q2.cell 1
            have hd3 := hd2 w2 du2
            clear hd2
            go_wp2_with fail
            refine hd3.mono ?_
            rintro e w9 ⟨rfl, du, _⟩
            clear hd3 q2 e12 ko2 du2 q1 e10 e11 e12' e13 du1
            go_wp2_with fail
            exact HK2 _ _ _ _ _ _ _ _ _ _ _ _ _ _ _ _ _ _ _ _ _ _ _ _ _ _ _ _ _ _ _ _ _ _ _ _ _ _ _ _ _ _ _ _ _ _ _ _ _ _ _ _ _ _ _ _ _ _ _ _ _ _ _ _ _ _ _ _ _ _ _ _ _ _ _ _ _ _ _ _ _ _ _ _ _ _ _ _ _ _ _ _ _ _ _ _ _ _ _ _ _ _ _ _ _ _ _ _ _ _ _ _ _ _ _ _ _ _ _ _ _ _ _ _ _ _ _ _ _ _ _ _ _ _ _ _ du si okd okr hfl
        · subst hk
          change _ = (4 : Int) at hkv
          as_aux_lemma =>
            obtain ⟨hr1, hr2, hr3⟩ := sim.read nn
            have hd1 := duo_read du1 okD (by omega) nn htn
            have hd2 := fun W (d : Duo w W b rb (D.read nn).2.2 R) => duo_rread d okR (by omega) nn
            rw [← hr1, ← hr2] at hd2
            have okd := read_ok okD nn
            have okr := okR.read nn
            have hfr : (R.read nn).2.2.fails = R.fails := by
              unfold RDev.read
              split <;> exact (begin_most R _).2
            rw [← hfr] at hfl
            generalize hD2 : (D.read nn).2.2 = D2 at hd1 hd2 hr3 okd
            generalize hR2 : (R.read nn).2.2 = R2 at hd2 hr3 okr hfl
            generalize (D.read nn).1 = tx at hd1 hd2
            generalize (D.read nn).2.1 = er at hd1 hd2
            have si := hr3
            clear hr1 hr2 hr3 hfr hD2 hR2 sim okD okR
            go_wp2_with fail
            refine hd1.mono ?_
            rintro e w2 ⟨rfl, du2, ko2⟩
            clear hd1
            have q2 := ko2 _ _ q1
            have e12 : w2.cell? ⟨g, 1, none⟩ = some (.int .i64 nn) := q2.cell 1
            have hd3 := hd2 w2 du2
            clear hd2
            go_wp2_with fail
            refine hd3.mono ?_
            rintro e w9 ⟨rfl, du, _⟩
            clear hd3 q2 e12 ko2 du2 q1 e10 e11 e12' e13 du1
            go_wp2_with fail
            exact HK2 _ _ _ _ _ _ _ _ _ _ _ _ _ _ _ _ _ _ _ _ _ _ _ _ _ _ _ _ _ _ _ _ _ _ _ _ _ _ _ _ _ _ _ _ _ _ _ _ _ _ _ _ _ _ _ _ _ _ _ _ _ _ _ _ _ _ _ _ _ _ _ _ _ _ _ _ _ _ _ _ _ _ _ _ _ _ _ _ _ _ _ _ _ _ _ _ _ _ _ _ _ _ _ _ _ _ _ _ _ _ _ _ _ _ _ _ _ _ _ _ _ _ _ _ _ _ _ _ _ _ _ _ _ _ _ _ du si okd okr hfl
        · subst hk
          change _ = (5 : Int) at hkv
          as_aux_lemma =>
            obtain ⟨hr1, hr3⟩ := sim.sync
            have hd1 := duo_sync du1 okD (by omega)
            have hd2 := fun W (d : Duo w W b rb D.sync.2 R) => duo_rsync d okR (by omega)
            rw [← hr1] at hd2
            have okd := sync_ok okD
            have okr := okR.sync
            have hfr : R.sync.2.fails = R.fails := by
              unfold RDev.sync
              split <;> exact (begin_most R _).2
            rw [← hfr] at hfl
            generalize hD2 : D.sync.2 = D2 at hd1 hd2 hr3 okd
            generalize hR2 : R.sync.2 = R2 at hd2 hr3 okr hfl
            generalize D.sync.1 = er at hd1 hd2
            have si := hr3
            clear hr1 hr3 hfr hD2 hR2 sim okD okR
            go_wp2_with fail
            refine hd1.mono ?_
            rintro e w2 ⟨rfl, du2, ko2⟩
            clear hd1
            have hd3 := hd2 w2 du2
            clear hd2
            go_wp2_with fail
            refine hd3.mono ?_
            rintro e w9 ⟨rfl, du, _⟩
            clear hd3 ko2 du2 q1 e10 e11 e12' e13 du1
            go_wp2_with fail
            exact HK2 _ _ _ _ _ _ _ _ _ _ _ _ _ _ _ _ _ _ _ _ _ _ _ _ _ _ _ _ _ _ _ _ _ _ _ _ _ _ _ _ _ _ _ _ _ _ _ _ _ _ _ _ _ _ _ _ _ _ _ _ _ _ _ _ _ _ _ _ _ _ _ _ _ _ _ _ _ _ _ _ _ _ _ _ _ _ _ _ _ _ _ _ _ _ _ _ _ _ _ _ _ _ _ _ _ _ _ _ _ _ _ _ _ _ _ _ _ _ _ _ _ _ _ _ _ _ _ _ _ _ _ _ _ _ _ _ du si okd okr hfl
        · subst hk
          change _ = (6 : Int) at hkv
          as_aux_lemma =>
            have hd1 := duo_crash du1 okD (by omega) hti rfl htc (by omega)
            go_wp2_with fail
            refine hd1.mono ?_
            rintro e w2 ⟨rfl, du2, ko2⟩
            clear hd1
            have q2 := ko2 _ _ q1
            have e12 : w2.cell? ⟨g, 1, none⟩ = some (.int .i64 nn) := q2.cell 1
            have e32 : w2.cell? ⟨g, 3, none⟩ = some (.slice lp ll.length lc) := q2.cell 3
            have hd2 := duo_rcrash du2 okR (by omega) hti hts sim.full
            go_wp2_with fail
            refine hd2.mono ?_
            rintro e w9 ⟨rfl, du, _⟩
            clear hd2 q2 e12 e32 ko2 du2 q1 e10 e11 e12' e13 du1
            obtain ⟨D2, hD2⟩ : ∃ D2, D2 = D.crash ll := ⟨_, rfl⟩
            obtain ⟨R2, hR2⟩ : ∃ R2, R2 = R.crash ll := ⟨_, rfl⟩
            have si : Sim D2 R2 := by rw [hD2, hR2]; exact sim.crash ll
            have okd : D2.ok (i + 1) := by rw [hD2]; exact (crash_ok okD ll).mono (by omega)
            have okr : R2.ok (i + 1) := by rw [hR2]; exact (okR.crash ll).mono (by omega)
            have hfl2 : R2.fails.length ≤ 17592186044416 := by rw [hR2]; exact Nat.zero_le _
            rw [← hD2, ← hR2] at du
            clear hD2 hR2 sim okD okR hfl
            have hfl := hfl2
            clear hfl2
            go_wp2_with fail
            exact HK2 _ _ _ _ _ _ _ _ _ _ _ _ _ _ _ _ _ _ _ _ _ _ _ _ _ _ _ _ _ _ _ _ _ _ _ _ _ _ _ _ _ _ _ _ _ _ _ _ _ _ _ _ _ _ _ _ _ _ _ _ _ _ _ _ _ _ _ _ _ _ _ _ _ _ _ _ _ _ _ _ _ _ _ _ _ _ _ _ _ _ _ _ _ _ _ _ _ _ _ _ _ _ _ _ _ _ _ _ _ _ _ _ _ _ _ _ _ _ _ _ _ _ _ _ _ _ _ _ _ _ _ _ _ _ _ _ du si okd okr hfl
        · subst hk
          change _ = (7 : Int) at hkv
          as_aux_lemma =>
            have hd1 := duo_arm du1 nn
            go_wp2_with fail
            refine hd1.mono ?_
            rintro e w2 ⟨rfl, du2, ko2⟩
            clear hd1
            have q2 := ko2 _ _ q1
            have e12 : w2.cell? ⟨g, 1, none⟩ = some (.int .i64 nn) := q2.cell 1
            have e32 : w2.cell? ⟨g, 3, none⟩ = some (.slice lp ll.length lc) := q2.cell 3
            have hd2 := duo_rarm du2 nn
            go_wp2_with fail
            refine hd2.mono ?_
            rintro e w9 ⟨rfl, du, _⟩
            clear hd2 q2 e12 e32 ko2 du2 q1 e10 e11 e12' e13 du1
            obtain ⟨D2, hD2⟩ : ∃ D2, D2 = { D with armed := true, left := max nn 0 } := ⟨_, rfl⟩
            obtain ⟨R2, hR2⟩ : ∃ R2, R2 = { R with armed := true, left := max nn 0 } := ⟨_, rfl⟩
            have si : Sim D2 R2 := by rw [hD2, hR2]; exact sim.arm nn
            have okd : D2.ok (i + 1) := by rw [hD2]; exact dev_arm okD nn htn
            have okr : R2.ok (i + 1) := by rw [hR2]; exact (okR.arm nn htn.2).mono (by omega)
            have hfl2 : R2.fails.length ≤ 17592186044416 := by rw [hR2]; exact hfl
            rw [← hD2, ← hR2] at du
            clear hD2 hR2 sim okD okR hfl
            have hfl := hfl2
            clear hfl2
            go_wp2_with fail
            exact HK2 _ _ _ _ _ _ _ _ _ _ _ _ _ _ _ _ _ _ _ _ _ _ _ _ _ _ _ _ _ _ _ _ _ _ _ _ _ _ _ _ _ _ _ _ _ _ _ _ _ _ _ _ _ _ _ _ _ _ _ _ _ _ _ _ _ _ _ _ _ _ _ _ _ _ _ _ _ _ _ _ _ _ _ _ _ _ _ _ _ _ _ _ _ _ _ _ _ _ _ _ _ _ _ _ _ _ _ _ _ _ _ _ _ _ _ _ _ _ _ _ _ _ _ _ _ _ _ _ _ _ _ _ _ _ _ _ du si okd okr hfl
        · subst hk
          change _ = (8 : Int) at hkv
          as_aux_lemma =>
            have hd1 := duo_fail du1 hti (by omega) hta
            go_wp2_with fail
            refine hd1.mono ?_
            rintro e w2 ⟨rfl, du2, ko2⟩
            clear hd1
            have q2 := ko2 _ _ q1
            have e12 : w2.cell? ⟨g, 1, none⟩ = some (.int .i64 nn) := q2.cell 1
            have e32 : w2.cell? ⟨g, 3, none⟩ = some (.slice lp ll.length lc) := q2.cell 3
            have hd2 := duo_rfail du2 hti hts
            go_wp2_with fail
            refine hd2.mono ?_
            rintro e w9 ⟨rfl, du, _⟩
            clear hd2 q2 e12 e32 ko2 du2 q1 e10 e11 e12' e13 du1
            obtain ⟨D2, hD2⟩ : ∃ D2, D2 = { D with fails := failsOf ll, count := 0 } := ⟨_, rfl⟩
            obtain ⟨R2, hR2⟩ : ∃ R2, R2 = { R with fails := ll, since := 0 } := ⟨_, rfl⟩
            have si : Sim D2 R2 := by rw [hD2, hR2]; exact sim.fail ll
            have okd : D2.ok (i + 1) := by rw [hD2]; exact dev_fail okD ll
            have okr : R2.ok (i + 1) := by rw [hR2]; exact (okR.fail ll (by omega)).mono (by omega)
            have hfl2 : R2.fails.length ≤ 17592186044416 := by rw [hR2]; exact hts
            rw [← hD2, ← hR2] at du
            clear hD2 hR2 sim okD okR hfl
            have hfl := hfl2
            clear hfl2
            go_wp2_with fail
            exact HK2 _ _ _ _ _ _ _ _ _ _ _ _ _ _ _ _ _ _ _ _ _ _ _ _ _ _ _ _ _ _ _ _ _ _ _ _ _ _ _ _ _ _ _ _ _ _ _ _ _ _ _ _ _ _ _ _ _ _ _ _ _ _ _ _ _ _ _ _ _ _ _ _ _ _ _ _ _ _ _ _ _ _ _ _ _ _ _ _ _ _ _ _ _ _ _ _ _ _ _ _ _ _ _ _ _ _ _ _ _ _ _ _ _ _ _ _ _ _ _ _ _ _ _ _ _ _ _ _ _ _ _ _ _ _ _ _ du si okd okr hfl
        · subst hk
          change _ = (9 : Int) at hkv
          as_aux_lemma =>
            have hd1 := duo_clear du1
            go_wp2_with fail
            refine hd1.mono ?_
            rintro e w2 ⟨rfl, du2, ko2⟩
            clear hd1
            have q2 := ko2 _ _ q1
            have e12 : w2.cell? ⟨g, 1, none⟩ = some (.int .i64 nn) := q2.cell 1
            have e32 : w2.cell? ⟨g, 3, none⟩ = some (.slice lp ll.length lc) := q2.cell 3
            have hd2 := duo_rclear du2
            go_wp2_with fail
            refine hd2.mono ?_
            rintro e w9 ⟨rfl, du, _⟩
            clear hd2 q2 e12 e32 ko2 du2 q1 e10 e11 e12' e13 du1
            obtain ⟨D2, hD2⟩ : ∃ D2, D2 = { D with armed := false, left := 0, fails := fun _ => Option.none, count := 0 } := ⟨_, rfl⟩
            obtain ⟨R2, hR2⟩ : ∃ R2, R2 = { R with armed := false, left := 0, fails := [] } := ⟨_, rfl⟩
            have si : Sim D2 R2 := by rw [hD2, hR2]; exact sim.clear
            have okd : D2.ok (i + 1) := by rw [hD2]; exact dev_clear okD
            have okr : R2.ok (i + 1) := by rw [hR2]; exact okR.clear.mono (by omega)
            have hfl2 : R2.fails.length ≤ 17592186044416 := by rw [hR2]; exact Nat.zero_le _
            rw [← hD2, ← hR2] at du
            clear hD2 hR2 sim okD okR hfl
            have hfl := hfl2
            clear hfl2
            go_wp2_with fail
            exact HK2 _ _ _ _ _ _ _ _ _ _ _ _ _ _ _ _ _ _ _ _ _ _ _ _ _ _ _ _ _ _ _ _ _ _ _ _ _ _ _ _ _ _ _ _ _ _ _ _ _ _ _ _ _ _ _ _ _ _ _ _ _ _ _ _ _ _ _ _ _ _ _ _ _ _ _ _ _ _ _ _ _ _ _ _ _ _ _ _ _ _ _ _ _ _ _ _ _ _ _ _ _ _ _ _ _ _ _ _ _ _ _ _ _ _ _ _ _ _ _ _ _ _ _ _ _ _ _ _ _ _ _ _ _ _ _ _ du si okd okr hfl
        · subst hk
          change _ = (10 : Int) at hkv
          as_aux_lemma =>
            have hd1 := duo_limit du1 nn
            go_wp2_with fail
            refine hd1.mono ?_
            rintro e w2 ⟨rfl, du2, ko2⟩
            clear hd1
            have q2 := ko2 _ _ q1
            have e12 : w2.cell? ⟨g, 1, none⟩ = some (.int .i64 nn) := q2.cell 1
            have e32 : w2.cell? ⟨g, 3, none⟩ = some (.slice lp ll.length lc) := q2.cell 3
            have hd2 := duo_rlimit du2 nn
            go_wp2_with fail
            refine hd2.mono ?_
            rintro e w9 ⟨rfl, du, _⟩
            clear hd2 q2 e12 e32 ko2 du2 q1 e10 e11 e12' e13 du1
            obtain ⟨D2, hD2⟩ : ∃ D2, D2 = { D with size := keptP nn } := ⟨_, rfl⟩
            obtain ⟨R2, hR2⟩ : ∃ R2, R2 = { R with most := keptP nn } := ⟨_, rfl⟩
            have si : Sim D2 R2 := by rw [hD2, hR2]; exact sim.limit nn
            have okd : D2.ok (i + 1) := by rw [hD2]; exact dev_limit okD nn
            have okr : R2.ok (i + 1) := by rw [hR2]; exact (okR.limit nn).mono (by omega)
            have hfl2 : R2.fails.length ≤ 17592186044416 := by rw [hR2]; exact hfl
            rw [← hD2, ← hR2] at du
            clear hD2 hR2 sim okD okR hfl
            have hfl := hfl2
            clear hfl2
            go_wp2_with fail
            exact HK2 _ _ _ _ _ _ _ _ _ _ _ _ _ _ _ _ _ _ _ _ _ _ _ _ _ _ _ _ _ _ _ _ _ _ _ _ _ _ _ _ _ _ _ _ _ _ _ _ _ _ _ _ _ _ _ _ _ _ _ _ _ _ _ _ _ _ _ _ _ _ _ _ _ _ _ _ _ _ _ _ _ _ _ _ _ _ _ _ _ _ _ _ _ _ _ _ _ _ _ _ _ _ _ _ _ _ _ _ _ _ _ _ _ _ _ _ _ _ _ _ _ _ _ _ _ _ _ _ _ _ _ _ _ _ _ _ du si okd okr hfl
        · subst hk
          change _ = (11 : Int) at hkv
          as_aux_lemma =>
            have hd1 := duo_copy du1 okD (by omega)
            go_wp2_with fail
            refine hd1.mono ?_
            rintro e w2 ⟨c2, rfl, tr2⟩
            clear hd1
            have hd2 := trio_rcopy tr2 okR (by omega) hfl
            go_wp2_with fail
            refine hd2.mono ?_
            rintro e w3 ⟨rc, rfl, tr3⟩
            clear hd2
            go_wp2_with fail
            refine (fill_any 63 _).mono ?_
            rintro e w4 ⟨rfl, hB4⟩
            have tr4 := tr3.next hB4
            have hd4 := trio_write tr4 okD (by omega) 0 (by omega) (fillOf 1024 63)
            have ok4 := write_ok okD 0 (fillOf 1024 63)
            generalize (D.write 0 (fillOf 1024 63)).2 = D4 at hd4 ok4
            generalize (D.write 0 (fillOf 1024 63)).1 = er4 at hd4
            generalize fillOf 1024 63 = S4 at hd4 ⊢
            go_wp2_with fail
            refine hd4.mono ?_
            rintro e w5 ⟨rfl, qu5⟩
            clear hd4
            have hd5 := quad_sync qu5 ok4 (by omega)
            generalize D4.sync.1 = er5 at hd5
            go_wp2_with fail
            refine hd5.mono ?_
            rintro e w9 ⟨rfl, du⟩
            clear hd5 qu5 tr4 tr3 tr2 hB4 q1 e10 e11 e12' e13 du1 ok4
            have si := sim
            have okd : D.ok (i + 1) := okD.mono (by omega)
            have okr : R.ok (i + 1) := okR.mono (by omega)
            clear sim okD okR
            go_wp2_with fail
            exact HK2 _ _ _ _ _ _ _ _ _ _ _ _ _ _ _ _ _ _ _ _ _ _ _ _ _ _ _ _ _ _ _ _ _ _ _ _ _ _ _ _ _ _ _ _ _ _ _ _ _ _ _ _ _ _ _ _ _ _ _ _ _ _ _ _ _ _ _ _ _ _ _ _ _ _ _ _ _ _ _ _ _ _ _ _ _ _ _ _ _ _ _ _ _ _ _ _ _ _ _ _ _ _ _ _ _ _ _ _ _ _ _ _ _ _ _ _ _ _ _ _ _ _ _ _ _ _ _ _ _ _ _ _ _ _ _ _ du si okd okr hfl
        · have hk3 : ((K : Int) == 3) = false := beq_eq_false_iff_ne.2 (by omega)
          have hk4 : ((K : Int) == 4) = false := beq_eq_false_iff_ne.2 (by omega)
          have hk5 : ((K : Int) == 5) = false := beq_eq_false_iff_ne.2 (by omega)
          have hk6 : ((K : Int) == 6) = false := beq_eq_false_iff_ne.2 (by omega)
          have hk7 : ((K : Int) == 7) = false := beq_eq_false_iff_ne.2 (by omega)
          have hk8 : ((K : Int) == 8) = false := beq_eq_false_iff_ne.2 (by omega)
          have hk9 : ((K : Int) == 9) = false := beq_eq_false_iff_ne.2 (by omega)
          have hk10 : ((K : Int) == 10) = false := beq_eq_false_iff_ne.2 (by omega)
          have hk11 : ((K : Int) == 11) = false := beq_eq_false_iff_ne.2 (by omega)
          by_cases h200 : by_ = 200
          · subst h200
            as_aux_lemma =>
              have hW1B : Below wr.heap.size wr W1 := hB1
              go_wp2_with fail
              refine (fill_any (200 : UInt8) _).mono ?_
              rintro e w2 ⟨rfl, hB2⟩
              have du2 := du1.next hB2
              have q2 := below_holds hB2 q1
              have e12 : w2.cell? ⟨g, 1, none⟩ = some (.int .i64 nn) := q2.cell 1
              have e22 : w2.cell? ⟨g, 2, none⟩ = some (.int .u8 ((200 : UInt8).toNat : Nat)) := q2.cell 2
              obtain ⟨S0, hS0⟩ : ∃ S0, S0 = fillOf 1024 (200 : UInt8) := ⟨_, rfl⟩
              rw [← hS0]
              have hS0s : S0.size = 1024 := by rw [hS0]; exact fillOf_size _ _
              clear hS0
              have hS0i : (S0.size : Int) = 1024 := by omega
              obtain ⟨S, hS⟩ : ∃ S, S = S0.extract 1 S0.size := ⟨_, rfl⟩
              obtain ⟨hr1, hr3⟩ := sim.write nn S
              have hd1 := fun W (d : Duo w W b rb D R) => duo_write d okD (by omega) nn htn S
              have hd2 := fun W (d : Duo w W b rb (D.write nn S).2 R) => duo_rwrite d okR (by omega) nn S
              rw [← hr1] at hd2
              have okd := write_ok okD nn S
              have okr := okR.write nn S
              have hfr : (R.write nn S).2.fails = R.fails := by
                unfold RDev.write
                split <;> exact (begin_most R _).2
              rw [← hfr] at hfl
              generalize hD2 : (D.write nn S).2 = D2 at hd1 hd2 hr3 okd
              generalize hR2 : (R.write nn S).2 = R2 at hd2 hr3 okr hfl
              generalize (D.write nn S).1 = er at hd1 hd2
              have si := hr3
              clear hr1 hr3 hfr hD2 hR2 sim okD okR
              go_wp2_with fail
              refine wp_region_plan (fun W => Holds W g 30 #[.int .i64 kd, .int .i64 nn, .int .u8 ((200 : UInt8).toNat : Nat), .slice lp ll.length lc]) [.take 0, .take 1, .take 2, .take 3, .take 5, .take 6, .take 7, .take 8, .one 4, .one 9, .take 10, .one 11] mixedP (by kernel_rfl) rfl (by kernel_rfl) (fun _ _ _ d _ h => by cases d <;> exact h) q2 ?_
              refine plan_valG (some 60) rfl rfl rfl (.pointer (some ⟨b, 0, none⟩)) (fun _ => by go_simp) ?_
              go_frame
              refine plan_valG (some 61) rfl rfl rfl (.pointer (some ⟨g, 1, none⟩)) (fun _ => by go_simp) ?_
              go_frame
              refine plan_ldG (some 62) rfl rfl rfl _ _ rfl rfl (v := .int .i64 nn) (fun W hW => ldInt (hW.cell 1)) ?_
              go_frame
              refine plan_valG (some 63) rfl rfl rfl (.string S) (fun _ => by go_simp) ?_
              go_frame
              refine plan_valG (some 65) rfl rfl rfl (.pointer (some ⟨rb, 0, none⟩)) (fun _ => by go_simp) ?_
              go_frame
              refine plan_valG (some 66) rfl rfl rfl (.pointer (some ⟨g, 1, none⟩)) (fun _ => by go_simp) ?_
              go_frame
              refine plan_ldG (some 67) rfl rfl rfl _ _ rfl rfl (v := .int .i64 nn) (fun W hW => ldInt (hW.cell 1)) ?_
              go_frame
              refine plan_valG (some 68) rfl rfl rfl (.string S) (fun _ => by go_simp) ?_
              go_frame
              refine plan_callG (some 64) rfl rfl rfl (f := 28) (vs := #[.pointer (some ⟨b, 0, none⟩), .int .i64 nn, .string S]) (by go_simp) ((hd1 _ (du2.next (below_drewP _))).mono ?_)
              rintro e w3 ⟨rfl, du3, ko3⟩
              clear hd1
              have q3 := ko3 _ _ q2
              refine ⟨_, rfl, q3, ?_⟩
              go_frame
              refine plan_callG (some 69) rfl rfl rfl (f := 30) (vs := #[.pointer (some ⟨rb, 0, none⟩), .int .i64 nn, .string S]) (by go_simp) ((hd2 _ du3).mono ?_)
              rintro e w9 ⟨rfl, du, ko9⟩
              clear hd2
              have q9 := ko9 _ _ q3
              refine ⟨_, rfl, q9, ?_⟩
              go_frame
              refine plan_valG (some 70) rfl rfl rfl (.bool true) (fun _ => by go_simp) ?_
              go_frame
              refine plan_one (some 11) rfl rfl rfl (v := .bool true) (w' := w9) (by go_simp) q9 ?_
              go_frame
              clear q9 ko9 q3 ko3 q2 e12 e22 du3 du2 hB2 q1 e10 e11 e12' e13 du1 hW1B
              refine inBlock_normal ?_
              refine then_normalD ?_
              go_at_K
              exact HK2 _ _ _ _ _ _ _ _ _ _ _ _ _ _ _ _ _ _ _ _ _ _ _ _ _ _ _ _ _ _ _ _ _ _ _ _ _ _ _ _ _ _ _ _ _ _ _ _ _ _ _ _ _ _ _ _ _ _ _ _ _ _ _ _ _ _ _ _ _ _ _ _ _ _ _ _ _ _ _ _ _ _ _ _ _ _ _ _ _ _ _ _ _ _ _ _ _ _ _ _ _ _ _ _ _ _ _ _ _ _ _ _ _ _ _ _ _ _ _ _ _ _ _ _ _ _ _ _ _ _ _ _ _ _ _ _ du si okd okr hfl
          · have h200i : (((by_.toNat : Nat) : Int) == 200) = false := beq_eq_false_iff_ne.2 (fun q => h200 (UInt8.toNat_inj.1 (by rw [show (200 : UInt8).toNat = 200 from rfl]; omega)))
            clear h200
            as_aux_lemma =>
              have hW1B : Below wr.heap.size wr W1 := hB1
              go_wp2_with fail
              refine (fill_any by_ _).mono ?_
              rintro e w2 ⟨rfl, hB2⟩
              have du2 := du1.next hB2
              have q2 := below_holds hB2 q1
              have e12 : w2.cell? ⟨g, 1, none⟩ = some (.int .i64 nn) := q2.cell 1
              have e22 : w2.cell? ⟨g, 2, none⟩ = some (.int .u8 (by_.toNat : Nat)) := q2.cell 2
              obtain ⟨S0, hS0⟩ : ∃ S0, S0 = fillOf 1024 by_ := ⟨_, rfl⟩
              rw [← hS0]
              have hS0s : S0.size = 1024 := by rw [hS0]; exact fillOf_size _ _
              clear hS0
              obtain ⟨S, hS⟩ : ∃ S, S = S0 := ⟨_, rfl⟩
              rw [← hS]
              clear hS hS0s
              obtain ⟨hr1, hr3⟩ := sim.write nn S
              have hd1 := fun W (d : Duo w W b rb D R) => duo_write d okD (by omega) nn htn S
              have hd2 := fun W (d : Duo w W b rb (D.write nn S).2 R) => duo_rwrite d okR (by omega) nn S
              rw [← hr1] at hd2
              have okd := write_ok okD nn S
              have okr := okR.write nn S
              have hfr : (R.write nn S).2.fails = R.fails := by
                unfold RDev.write
                split <;> exact (begin_most R _).2
              rw [← hfr] at hfl
              generalize hD2 : (D.write nn S).2 = D2 at hd1 hd2 hr3 okd
              generalize hR2 : (R.write nn S).2 = R2 at hd2 hr3 okr hfl
              generalize (D.write nn S).1 = er at hd1 hd2
              have si := hr3
              clear hr1 hr3 hfr hD2 hR2 sim okD okR
              go_wp2_with fail
              refine wp_region_plan (fun W => Holds W g 30 #[.int .i64 kd, .int .i64 nn, .int .u8 (by_.toNat : Nat), .slice lp ll.length lc]) [.take 0, .take 1, .take 2, .take 3, .take 5, .take 6, .take 7, .take 8, .one 4, .one 9, .take 10, .one 11] mixedP (by kernel_rfl) rfl (by kernel_rfl) (fun _ _ _ d _ h => by cases d <;> exact h) q2 ?_
              refine plan_valG (some 60) rfl rfl rfl (.pointer (some ⟨b, 0, none⟩)) (fun _ => by go_simp) ?_
              go_frame
              refine plan_valG (some 61) rfl rfl rfl (.pointer (some ⟨g, 1, none⟩)) (fun _ => by go_simp) ?_
              go_frame
              refine plan_ldG (some 62) rfl rfl rfl _ _ rfl rfl (v := .int .i64 nn) (fun W hW => ldInt (hW.cell 1)) ?_
              go_frame
              refine plan_valG (some 63) rfl rfl rfl (.string S) (fun _ => by go_simp) ?_
              go_frame
              refine plan_valG (some 65) rfl rfl rfl (.pointer (some ⟨rb, 0, none⟩)) (fun _ => by go_simp) ?_
              go_frame
              refine plan_valG (some 66) rfl rfl rfl (.pointer (some ⟨g, 1, none⟩)) (fun _ => by go_simp) ?_
              go_frame
              refine plan_ldG (some 67) rfl rfl rfl _ _ rfl rfl (v := .int .i64 nn) (fun W hW => ldInt (hW.cell 1)) ?_
              go_frame
              refine plan_valG (some 68) rfl rfl rfl (.string S) (fun _ => by go_simp) ?_
              go_frame
              refine plan_callG (some 64) rfl rfl rfl (f := 28) (vs := #[.pointer (some ⟨b, 0, none⟩), .int .i64 nn, .string S]) (by go_simp) ((hd1 _ (du2.next (below_drewP _))).mono ?_)
              rintro e w3 ⟨rfl, du3, ko3⟩
              clear hd1
              have q3 := ko3 _ _ q2
              refine ⟨_, rfl, q3, ?_⟩
              go_frame
              refine plan_callG (some 69) rfl rfl rfl (f := 30) (vs := #[.pointer (some ⟨rb, 0, none⟩), .int .i64 nn, .string S]) (by go_simp) ((hd2 _ du3).mono ?_)
              rintro e w9 ⟨rfl, du, ko9⟩
              clear hd2
              have q9 := ko9 _ _ q3
              refine ⟨_, rfl, q9, ?_⟩
              go_frame
              refine plan_valG (some 70) rfl rfl rfl (.bool true) (fun _ => by go_simp) ?_
              go_frame
              refine plan_one (some 11) rfl rfl rfl (v := .bool true) (w' := w9) (by go_simp) q9 ?_
              go_frame
              clear q9 ko9 q3 ko3 q2 e12 e22 du3 du2 hB2 q1 e10 e11 e12' e13 du1 hW1B
              refine inBlock_normal ?_
              refine then_normalD ?_
              go_at_K
              exact HK2 _ _ _ _ _ _ _ _ _ _ _ _ _ _ _ _ _ _ _ _ _ _ _ _ _ _ _ _ _ _ _ _ _ _ _ _ _ _ _ _ _ _ _ _ _ _ _ _ _ _ _ _ _ _ _ _ _ _ _ _ _ _ _ _ _ _ _ _ _ _ _ _ _ _ _ _ _ _ _ _ _ _ _ _ _ _ _ _ _ _ _ _ _ _ _ _ _ _ _ _ _ _ _ _ _ _ _ _ _ _ _ _ _ _ _ _ _ _ _ _ _ _ _ _ _ _ _ _ _ _ _ _ _ _ _ _ du si okd okr hfl
    · have hix : ¬ (i : Int) < n ∨ ((i : Int) < n ∧ ¬ (i : Int) < 80) := by omega
      have hcr := duo_crash duo okD (by omega) (p := none) (n := 0) (c := 0) (l := []) (.inl ⟨rfl, none, 0, rfl⟩) rfl (Nat.le_refl _) (Nat.zero_le _)
      have sim2 := sim.crash []
      have okD2 := crash_ok okD []
      have okR2 := okR.crash []
      have hcr2 := fun W (d : Duo w W b rb (D.crash []) R) => duo_rcrash d okR (by omega) (v := .slice none 0 0) (l := []) (.inl ⟨rfl, none, 0, rfl⟩) (Nat.zero_le _) sim.full
      generalize D.crash [] = D2 at hcr sim2 okD2 hcr2
      generalize R.crash [] = R2 at sim2 okR2 hcr2
      clear sim okD okR hfl duo hx HNL
      rcases hix with hia | ⟨hia, hib⟩
      · as_aux_lemma =>
        go_wp2_with fail
        refine hcr.mono ?_
        rintro e w2 ⟨rfl, du2, _⟩
        clear hcr
        have hcr3 := hcr2 w2 du2
        clear hcr2 du2
        go_wp2_with fail
        refine hcr3.mono ?_
        rintro e w3 ⟨rfl, du3, _⟩
        clear hcr3
        have F1 : Hid (Duo w w3 b rb D2 R2 ∧ Sim D2 R2 ∧ D2.ok i ∧ R2.ok i) := ⟨du3, sim2, okD2, okR2⟩
        clear du3 sim2 okD2 okR2
        go_wp2_with fail
        go_loopw [18] (fun y wr => ∃ (j : Nat) (D : Dev) (R : RDev), y = .int .i64 ((j : Int) - 1) ∧ j ≤ 41 ∧ Duo w wr b rb D R ∧ Sim D R ∧ D.ok (i + j) ∧ R.ok (i + j)) (fun y _ => 41 - (intOf y + 1).toNat)
        case atStart => exact ⟨0, D2, R2, rfl, by omega, F1.out.1, F1.out.2.1, F1.out.2.2.1, F1.out.2.2.2⟩
        case round =>
          clear F1
          obtain ⟨j, E, T, rfl, hj41, du, sim, okD, okR⟩ := hrel
          obtain ⟨z, hz⟩ : ∃ z : Int, (j : Int) - 1 = z := ⟨_, rfl⟩
          rw [hz]
          have hz1 : -1 ≤ z := by omega
          have hz2 : z ≤ 40 := by omega
          by_cases hj : z < 40
          · obtain ⟨hr1, hr2, hr3⟩ := sim.read z
            have hd1 := duo_read du okD (by omega) z (by omega)
            have hd2 := fun W (d : Duo w W b rb (E.read z).2.2 T) => duo_rread d okR (by omega) z
            rw [← hr1, ← hr2] at hd2
            have okd := read_ok okD z
            have okr := okR.read z
            generalize (E.read z).2.2 = E2 at hd1 hd2 hr3 okd
            generalize (T.read z).2.2 = T2 at hd2 hr3 okr
            generalize (E.read z).1 = tx at hd1 hd2
            generalize (E.read z).2.1 = er at hd1 hd2
            clear hr1 hr2 du sim okD okR
            go_wp2_with fail
            refine hd1.mono ?_
            rintro e w4 ⟨rfl, du4, _⟩
            clear hd1
            have hd3 := hd2 w4 du4
            clear hd2 du4
            go_wp2_with fail
            refine hd3.mono ?_
            rintro e w5 ⟨rfl, du5, _⟩
            clear hd3
            have F2 : Hid (Duo w w5 b rb E2 T2 ∧ Sim E2 T2 ∧ E2.ok (i + (j + 1)) ∧ T2.ok (i + (j + 1))) := ⟨du5, hr3, okd, okr⟩
            clear du5 hr3 okd okr
            go_wp2_with fail
            go_roundw
            case rel => exact ⟨j + 1, E2, T2, by rw [← hz]; go_num, by omega, F2.out.1, F2.out.2.1, F2.out.2.2.1, F2.out.2.2.2⟩
            case measure => simp [intOf]; omega
          · have hfin := du.all
            go_wp2_with fail
            go_ret
            exact ⟨rfl, hfin⟩
      · as_aux_lemma =>
        go_wp2_with fail
        refine hcr.mono ?_
        rintro e w2 ⟨rfl, du2, _⟩
        clear hcr
        have hcr3 := hcr2 w2 du2
        clear hcr2 du2
        go_wp2_with fail
        refine hcr3.mono ?_
        rintro e w3 ⟨rfl, du3, _⟩
        clear hcr3
        have F1 : Hid (Duo w w3 b rb D2 R2 ∧ Sim D2 R2 ∧ D2.ok i ∧ R2.ok i) := ⟨du3, sim2, okD2, okR2⟩
        clear du3 sim2 okD2 okR2
        go_wp2_with fail
        go_loopw [18] (fun y wr => ∃ (j : Nat) (D : Dev) (R : RDev), y = .int .i64 ((j : Int) - 1) ∧ j ≤ 41 ∧ Duo w wr b rb D R ∧ Sim D R ∧ D.ok (i + j) ∧ R.ok (i + j)) (fun y _ => 41 - (intOf y + 1).toNat)
        case atStart => exact ⟨0, D2, R2, rfl, by omega, F1.out.1, F1.out.2.1, F1.out.2.2.1, F1.out.2.2.2⟩
        case round =>
          clear F1
          obtain ⟨j, E, T, rfl, hj41, du, sim, okD, okR⟩ := hrel
          obtain ⟨z, hz⟩ : ∃ z : Int, (j : Int) - 1 = z := ⟨_, rfl⟩
          rw [hz]
          have hz1 : -1 ≤ z := by omega
          have hz2 : z ≤ 40 := by omega
          by_cases hj : z < 40
          · obtain ⟨hr1, hr2, hr3⟩ := sim.read z
            have hd1 := duo_read du okD (by omega) z (by omega)
            have hd2 := fun W (d : Duo w W b rb (E.read z).2.2 T) => duo_rread d okR (by omega) z
            rw [← hr1, ← hr2] at hd2
            have okd := read_ok okD z
            have okr := okR.read z
            generalize (E.read z).2.2 = E2 at hd1 hd2 hr3 okd
            generalize (T.read z).2.2 = T2 at hd2 hr3 okr
            generalize (E.read z).1 = tx at hd1 hd2
            generalize (E.read z).2.1 = er at hd1 hd2
            clear hr1 hr2 du sim okD okR
            go_wp2_with fail
            refine hd1.mono ?_
            rintro e w4 ⟨rfl, du4, _⟩
            clear hd1
            have hd3 := hd2 w4 du4
            clear hd2 du4
            go_wp2_with fail
            refine hd3.mono ?_
            rintro e w5 ⟨rfl, du5, _⟩
            clear hd3
            have F2 : Hid (Duo w w5 b rb E2 T2 ∧ Sim E2 T2 ∧ E2.ok (i + (j + 1)) ∧ T2.ok (i + (j + 1))) := ⟨du5, hr3, okd, okr⟩
            clear du5 hr3 okd okr
            go_wp2_with fail
            go_roundw
            case rel => exact ⟨j + 1, E2, T2, by rw [← hz]; go_num, by omega, F2.out.1, F2.out.2.1, F2.out.2.2.1, F2.out.2.2.2⟩
            case measure => simp [intOf]; omega
          · have hfin := du.all
            go_wp2_with fail
            go_ret
            exact ⟨rfl, hfin⟩
end Go.Proofs.Ytonmjkalkkfhhaa
