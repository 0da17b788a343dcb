/-
  What the document's call of Copy does.
-/
import Derived.Test.YtonmjkalkkfhhaaDRFailW
import Derived.Test.YtonmjkalkkfhhaaDTakeE
import Derived.Laws.OwnMore
namespace Go.Proofs.Ytonmjkalkkfhhaa
open Go Go.RowKit Go.Maps

theorem exec_appendD {P : Program} {op : Oper} {ρ : Operand → Value} {w w' : World} {t : TypeId} {s x : Operand} {v y v' : Value} (ho : op.op = .call { callee := .builtin .append, args := #[s, x], argTypes := #[t, t] }) (hs : ρ s = v) (hx : ρ x = y)
    (hr : (Builtin.append_ #[t, t] op.type #[v, y]).run P w = .ok v' w') : (execOp ρ op).run P w = .ok (.value v') w' := by
  unfold execOp
  simp only [ho, resolve, invoke, builtin, Sem.run_bind, Sem.run_pure, Result.andThen_ok, List.map_toArray, List.map_cons, List.map_nil, hs, hx, hr]
/-- A row is copied. -/
theorem append_copy {P : Program} {w : World} {base : Nat} {t ty e : TypeId} {i : TypeInfo} {z : Value} {size bytes : Nat} (ht : P.underlying t = some (.slice e)) (hi : P.info? e = some i) (hz : i.zero = some z)
    (hsize : i.size = size) (hby : i.bytes = bytes) (hzs : z.cells.size = size) (hsz : 0 < size) {v : Value} {n : Nat} {xs : List Value} (hown : w.ownsRow base e size v n xs) (h1 : ∀ u ∈ xs, u.oneCell' = true)
    (h63 : n ≤ maxLen) (hbytes : n * bytes ≤ 140737488355328) (hbase : base ≤ w.heap.size) :
    ∃ p c w', (Builtin.append_ #[t, t] ty #[.slice none 0 0, v]).run P w = .ok (.slice p n c) w' ∧ w'.ownsRow base e size (.slice p n c) n xs ∧ w.grownBy w' none := by
  rcases hown.2 with ⟨rfl, h0⟩ | ⟨g, cap, cur, rfl, _⟩
  · subst h0
    have hx : xs = [] := by
      have := hown.1
      rw [Nat.zero_mul] at this
      exact List.length_eq_zero_iff.1 this
    subst hx
    exact ⟨none, 0, w, run_append_owned_none w base t ty e i size ht hi _ 0 [] (World.ownsRow_nil _ _ _ _), World.ownsRow_nil _ _ _ _, ⟨rfl, rfl, rfl, Nat.le_refl _, fun _ _ _ => rfl⟩⟩
  · obtain ⟨v', w', h2, h3, h4, _⟩ := run_append_own (P := P) w base t ty e i z size bytes ht hi hz hsize hby hzs hsz (.slice none 0 0) 0 [] (World.ownsRow_nil _ _ _ _) ⟨g, 0, none⟩ n cap xs hown.1 (hown.cells rfl) h1 (by omega) (by rw [Nat.zero_add]; exact hbytes) hbase
    rw [Nat.zero_add, List.nil_append] at h3
    obtain ⟨p, c, rfl⟩ := slice_of h3
    exact ⟨p, c, w', h2, h3, h4⟩
section
variable {w w3 : World} {base rb : Nat} {vl vp vf : Value} {R : RDev}
theorem RAt.noLasts (h : RAt w base rb vl vp vf R) : RAt (w.setCell ⟨rb, 1, none⟩ (.slice none 0 0)) base rb (.slice none 0 0) vp vf { R with lasts := [] } := by
  have o := (Only.refl rb w).set 1 (.slice none 0 0)
  exact ⟨(h.cells.set 1 _).congr rfl, World.ownsRow_nil _ _ _ _, h.keptP' o, h.keptF o, h.new⟩
theorem RAt.newL (h : RAt w base rb vl vp vf R) (hg : w.grownBy w3 none) {vl' : Value} {L : List ByteArray} (hown : w3.ownsRow base 9 1 vl' L.length (L.map fun s => .string s)) :
    RAt (w3.setCell ⟨rb, 1, none⟩ vl') base rb vl' vp vf { R with lasts := L } ∧ Only rb w (w3.setCell ⟨rb, 1, none⟩ vl') := by
  have h3 := h.below (grown_below hg)
  have o := (Only.refl rb w3).set 1 vl'
  refine ⟨⟨(h3.cells.set 1 _).congr rfl, owns_keep hown fun k hk => ?_, h3.keptP' o, h3.keptF o, h.new⟩, ?_⟩
  · exact Below.heap_setCell _ _ _ _ (fun q => owns_holds hown h3.cells (by decide) ((show k = rb from q) ▸ hk))
  · exact ((Only.refl rb w).below (grown_below hg)).trans o
theorem RAt.newP (h : RAt w base rb vl vp vf R) (hg : w.grownBy w3 none) {vp' : Value} {L : List (Int × ByteArray)} (hown : w3.ownsRow base 71 2 vp' L.length (wcells L)) :
    RAt (w3.setCell ⟨rb, 2, none⟩ vp') base rb vl vp' vf { R with puts := L } ∧ Only rb w (w3.setCell ⟨rb, 2, none⟩ vp') := by
  have h3 := h.below (grown_below hg)
  have o := (Only.refl rb w3).set 2 vp'
  refine ⟨⟨(h3.cells.set 2 _).congr rfl, h3.keptL o, owns_keep hown fun k hk => ?_, h3.keptF o, h.new⟩, ?_⟩
  · exact Below.heap_setCell _ _ _ _ (fun q => owns_holds hown h3.cells (by decide) ((show k = rb from q) ▸ hk))
  · exact ((Only.refl rb w).below (grown_below hg)).trans o
theorem wcells_one (L : List (Int × ByteArray)) : ∀ u ∈ wcells L, u.oneCell' = true := fun u hu => by
  unfold wcells at hu
  obtain ⟨p, _, hp⟩ := List.mem_flatMap.1 hu
  simp at hp
  rcases hp with rfl | rfl <;> rfl
set_option maxRecDepth 8000 in
set_option maxHeartbeats 4000000 in
theorem rcopy_any (h : RAt w base rb vl vp vf R) {N : Nat} (ok : R.ok N) (hN : N < 1000000000) (hfl : R.fails.length ≤ 17592186044416) :
    Calls Try.prog 27 #[.pointer (some ⟨rb, 0, none⟩)] w fun e w' => ∃ rc vl' vp' vf', e = .returned (.pointer (some ⟨rc, 0, none⟩)) ∧ RAt w' base rc vl' vp' vf' R ∧ Below w.heap.size w w' := by
  obtain ⟨pl, cl, hvl⟩ := slice_of h.lasts
  obtain ⟨pp, cp, hvp⟩ := slice_of h.puts
  obtain ⟨pf, cf, hvf⟩ := slice_of h.fails
  subst hvl hvp hvf
  have c0 : w.cell? ⟨rb, 0, none⟩ = some (.int .i64 R.most) := h.cells.cell 0
  have c1 : w.cell? ⟨rb, 1, none⟩ = some ((.slice pl R.lasts.length cl)) := h.cells.cell 1
  have c2 : w.cell? ⟨rb, 2, none⟩ = some ((.slice pp R.puts.length cp)) := h.cells.cell 2
  have c3 : w.cell? ⟨rb, 3, none⟩ = some (.bool R.off) := h.cells.cell 3
  have c4 : w.cell? ⟨rb, 4, none⟩ = some (.int .i64 R.done) := h.cells.cell 4
  have c5 : w.cell? ⟨rb, 5, none⟩ = some (.bool R.armed) := h.cells.cell 5
  have c6 : w.cell? ⟨rb, 6, none⟩ = some (.int .i64 R.left) := h.cells.cell 6
  have c7 : w.cell? ⟨rb, 7, none⟩ = some ((.slice pf R.fails.length cf)) := h.cells.cell 7
  have c8 : w.cell? ⟨rb, 8, none⟩ = some (.int .i64 R.since) := h.cells.cell 8
  obtain ⟨nb, hnb⟩ : ∃ nb, w.heap.size = nb := ⟨_, rfl⟩
  have HNB : Hid (w.heap.size = nb) := hnb
  have hrn : rb < nb := by rw [← hnb]; exact h.cells.lt
  have hbn : base ≤ nb := by have := h.new; omega
  obtain ⟨W1, hW1⟩ : ∃ W, w.alloc (.cells #[.int .i64 R.most, (.slice pl R.lasts.length cl), (.slice pp R.puts.length cp), .bool R.off, .int .i64 R.done, .bool R.armed, .int .i64 R.left, (.slice pf R.fails.length cf), .int .i64 R.since] 45) = W := ⟨_, rfl⟩
  have hB1 : Below w.heap.size w W1 := by rw [← hW1]; exact below_new1 _ _
  have o1 := h.below hB1
  have n1 : RAt W1 base nb (.slice pl R.lasts.length cl) (.slice pp R.puts.length cp) (.slice pf R.fails.length cf) R := ⟨by rw [← hW1, ← hnb]; exact Holds.new _ _ _, o1.lasts, o1.puts, o1.fails, hbn⟩
  have HOK : Hid (R.ok N ∧ RAt w base rb (.slice pl R.lasts.length cl) (.slice pp R.puts.length cp) (.slice pf R.fails.length cf) R) := ⟨ok, h⟩
  obtain ⟨iL, hiL, hzL, hsL, hyL⟩ := infoStr
  have mL := n1.noLasts
  obtain ⟨XL, hXL⟩ : ∃ X, W1.setCell ⟨nb, 1, none⟩ (.slice none 0 0) = X := ⟨_, rfl⟩
  rw [hXL] at mL
  have hBxL : Below w.heap.size w XL := by rw [← hXL]; exact hB1.setCell (by show _ ≤ nb; rw [hnb]; exact Nat.le_refl _) _
  have oL := HOK.out.2.below hBxL.drew
  obtain ⟨pL, kL, YL, hrunL, hownL, hgrL⟩ := append_copy (ty := 42) (P := Try.prog) underStrs hiL hzL hsL hyL rfl (by decide) oL.lasts (fun u hu => by obtain ⟨y, _, rfl⟩ := List.mem_map.1 hu; rfl) (by have := HOK.out.1.lasts; unfold maxLen; omega) (by have := HOK.out.1.lasts; omega) (by have := hBxL.size; show base ≤ XL.heap.size; omega)
  have mdL := mL.same (w' := XL.drew) fun _ _ => rfl
  have nL := (mdL.newL hgrL hownL).1
  have CL1 : XL.drew.cell? ⟨nb, 1, none⟩ = some (.slice none 0 0) ∧ XL.drew.cell? ⟨rb, 1, none⟩ = some (.slice pl R.lasts.length cl) := ⟨mdL.cells.cell 1, oL.cells.cell 1⟩
  have CL2 : YL.cell? ⟨nb, 1, none⟩ = some (.slice none 0 0) ∧ YL.cell? ⟨rb, 1, none⟩ = some (.slice pl R.lasts.length cl) := ⟨(mdL.below (grown_below hgrL)).cells.cell 1, (oL.below (grown_below hgrL)).cells.cell 1⟩
  have fL : YL.frozen? ⟨nb, 1, none⟩ = false := (mdL.below (grown_below hgrL)).cells.frozen 1
  have gL : W1.frozen? ⟨nb, 1, none⟩ = false := n1.cells.frozen 1
  have qL : W1.cell? ⟨nb, 1, none⟩ = some (.slice pl R.lasts.length cl) := n1.cells.cell 1
  have hByL : Below w.heap.size w YL := hBxL.drew.trans ((grown_below hgrL).mono hBxL.drew.size)
  obtain ⟨ZL, hZL⟩ : ∃ Z, YL.setCell ⟨nb, 1, none⟩ (.slice pL R.lasts.length kL) = Z := ⟨_, rfl⟩
  have hBzL : Below w.heap.size w ZL := by rw [← hZL]; exact hByL.setCell (by show _ ≤ nb; rw [hnb]; exact Nat.le_refl _) _
  rw [hZL] at nL
  obtain ⟨iP, hiP, hzP, hsP, hyP⟩ := infoPut
  have mP := nL.noPuts
  obtain ⟨XP, hXP⟩ : ∃ X, ZL.setCell ⟨nb, 2, none⟩ (.slice none 0 0) = X := ⟨_, rfl⟩
  rw [hXP] at mP
  have hBxP : Below w.heap.size w XP := by rw [← hXP]; exact hBzL.setCell (by show _ ≤ nb; rw [hnb]; exact Nat.le_refl _) _
  have oP := HOK.out.2.below hBxP.drew
  obtain ⟨pP, kP, YP, hrunP, hownP, hgrP⟩ := append_copy (ty := 43) (P := Try.prog) underPuts hiP hzP hsP hyP rfl (by decide) oP.puts (wcells_one _) (by have := HOK.out.1.puts; unfold maxLen; omega) (by have := HOK.out.1.puts; omega) (by have := hBxP.size; show base ≤ XP.heap.size; omega)
  have mdP := mP.same (w' := XP.drew) fun _ _ => rfl
  have nP := (mdP.newP hgrP hownP).1
  have CP1 : XP.drew.cell? ⟨nb, 2, none⟩ = some (.slice none 0 0) ∧ XP.drew.cell? ⟨rb, 2, none⟩ = some (.slice pp R.puts.length cp) := ⟨mdP.cells.cell 2, oP.cells.cell 2⟩
  have CP2 : YP.cell? ⟨nb, 2, none⟩ = some (.slice none 0 0) ∧ YP.cell? ⟨rb, 2, none⟩ = some (.slice pp R.puts.length cp) := ⟨(mdP.below (grown_below hgrP)).cells.cell 2, (oP.below (grown_below hgrP)).cells.cell 2⟩
  have fP : YP.frozen? ⟨nb, 2, none⟩ = false := (mdP.below (grown_below hgrP)).cells.frozen 2
  have gP : ZL.frozen? ⟨nb, 2, none⟩ = false := nL.cells.frozen 2
  have qP : ZL.cell? ⟨nb, 2, none⟩ = some (.slice pp R.puts.length cp) := nL.cells.cell 2
  have hByP : Below w.heap.size w YP := hBxP.drew.trans ((grown_below hgrP).mono hBxP.drew.size)
  obtain ⟨ZP, hZP⟩ : ∃ Z, YP.setCell ⟨nb, 2, none⟩ (.slice pP R.puts.length kP) = Z := ⟨_, rfl⟩
  have hBzP : Below w.heap.size w ZP := by rw [← hZP]; exact hByP.setCell (by show _ ≤ nb; rw [hnb]; exact Nat.le_refl _) _
  rw [hZP] at nP
  obtain ⟨iF, hiF, hzF, hsF, hyF⟩ := infoIntD
  have mF := nP.noFails
  obtain ⟨XF, hXF⟩ : ∃ X, ZP.setCell ⟨nb, 7, none⟩ (.slice none 0 0) = X := ⟨_, rfl⟩
  rw [hXF] at mF
  have hBxF : Below w.heap.size w XF := by rw [← hXF]; exact hBzP.setCell (by show _ ≤ nb; rw [hnb]; exact Nat.le_refl _) _
  have oF := HOK.out.2.below hBxF.drew
  obtain ⟨pF, kF, YF, hrunF, hownF, hgrF⟩ := append_copy (ty := 28) (P := Try.prog) underIntsD hiF hzF hsF hyF rfl (by decide) oF.fails (fun u hu => by obtain ⟨y, _, rfl⟩ := List.mem_map.1 hu; rfl) (by unfold maxLen; omega) (by omega) (by have := hBxF.size; show base ≤ XF.heap.size; omega)
  have mdF := mF.same (w' := XF.drew) fun _ _ => rfl
  have nF := (mdF.newF hgrF hownF).1
  have CF1 : XF.drew.cell? ⟨nb, 7, none⟩ = some (.slice none 0 0) ∧ XF.drew.cell? ⟨rb, 7, none⟩ = some (.slice pf R.fails.length cf) := ⟨mdF.cells.cell 7, oF.cells.cell 7⟩
  have CF2 : YF.cell? ⟨nb, 7, none⟩ = some (.slice none 0 0) ∧ YF.cell? ⟨rb, 7, none⟩ = some (.slice pf R.fails.length cf) := ⟨(mdF.below (grown_below hgrF)).cells.cell 7, (oF.below (grown_below hgrF)).cells.cell 7⟩
  have fF : YF.frozen? ⟨nb, 7, none⟩ = false := (mdF.below (grown_below hgrF)).cells.frozen 7
  have gF : ZP.frozen? ⟨nb, 7, none⟩ = false := nP.cells.frozen 7
  have qF : ZP.cell? ⟨nb, 7, none⟩ = some (.slice pf R.fails.length cf) := nP.cells.cell 7
  have hByF : Below w.heap.size w YF := hBxF.drew.trans ((grown_below hgrF).mono hBxF.drew.size)
  obtain ⟨ZF, hZF⟩ : ∃ Z, YF.setCell ⟨nb, 7, none⟩ (.slice pF R.fails.length kF) = Z := ⟨_, rfl⟩
  have hBzF : Below w.heap.size w ZF := by rw [← hZF]; exact hByF.setCell (by show _ ≤ nb; rw [hnb]; exact Nat.le_refl _) _
  rw [hZF] at nF
  have FIN : Hid (RAt ZF base nb _ _ _ R ∧ Below w.heap.size w ZF) := ⟨nF, hBzF⟩
  clear n1 nL nP nF mL mP mF mdL mdP mdF oL oP oF o1 hBxL hBxP hBxF hByL hByP hByF hBzL hBzP hBzF hB1 hgrL hgrP hgrF hownL hownP hownF h ok hbn
  go_enter Try.func27, Try.ntmps27
  go_wp2_with fail
  try rw [hXL]
  refine wp_region_planE (fun W => W.cell? ⟨nb, 1, none⟩ = some (.slice none 0 0) ∧ W.cell? ⟨rb, 1, none⟩ = some (.slice pl R.lasts.length cl)) 8 [.take 0, .take 1, .take 2, .take 3, .take 4, .take 5, .one 6, .take 7, .one 8] mixedP (by kernel_rfl) rfl (by kernel_rfl) (by kernel_rfl) rfl (fun _ _ _ d _ h => by cases d <;> exact h) CL1 ?_
  refine planE_val (some 8) rfl rfl rfl (.pointer (some ⟨nb, 1, none⟩)) (fun W hC => by go_simp) ?_
  go_frame
  refine planE_val (some 9) rfl rfl rfl (.slice none 0 0) (fun W hC => by have hcv := hC.1; go_simp) ?_
  go_frame
  refine planE_val (some 10) rfl rfl rfl (.pointer (some ⟨rb, 0, none⟩)) (fun W hC => by go_simp) ?_
  go_frame
  refine planE_val (some 11) rfl rfl rfl (.pointer (some ⟨rb, 0, none⟩)) (fun W hC => by go_simp) ?_
  go_frame
  refine planE_val (some 12) rfl rfl rfl (.pointer (some ⟨rb, 1, none⟩)) (fun W hC => by go_simp) ?_
  go_frame
  refine planE_val (some 13) rfl rfl rfl ((.slice pl R.lasts.length cl)) (fun W hC => by have hcv := hC.2; go_simp) ?_
  go_frame
  refine planE_one (some 14) rfl rfl rfl (v := .slice pL R.lasts.length kL) (w' := YL) (exec_appendD rfl rfl rfl hrunL) CL2 ?_
  go_frame
  refine planE_val (some 15) rfl rfl rfl (.pointer (some ⟨nb, 1, none⟩)) (fun W hC => by go_simp) ?_
  go_frame
  have eL := CL2.1
  refine planE_last none rfl rfl rfl (w' := YL.setCell ⟨nb, 1, none⟩ (.slice pL R.lasts.length kL)) (by go_simp) ?_
  go_frame
  rw [hZL]
  refine then_normalD ?_
  go_at_K
  go_wp2_with fail
  try rw [hXP]
  refine wp_region_planE (fun W => W.cell? ⟨nb, 2, none⟩ = some (.slice none 0 0) ∧ W.cell? ⟨rb, 2, none⟩ = some (.slice pp R.puts.length cp)) 8 [.take 0, .take 1, .take 2, .take 3, .take 4, .take 5, .one 6, .take 7, .one 8] mixedP (by kernel_rfl) rfl (by kernel_rfl) (by kernel_rfl) rfl (fun _ _ _ d _ h => by cases d <;> exact h) CP1 ?_
  refine planE_val (some 17) rfl rfl rfl (.pointer (some ⟨nb, 2, none⟩)) (fun W hC => by go_simp) ?_
  go_frame
  refine planE_val (some 18) rfl rfl rfl (.slice none 0 0) (fun W hC => by have hcv := hC.1; go_simp) ?_
  go_frame
  refine planE_val (some 19) rfl rfl rfl (.pointer (some ⟨rb, 0, none⟩)) (fun W hC => by go_simp) ?_
  go_frame
  refine planE_val (some 20) rfl rfl rfl (.pointer (some ⟨rb, 0, none⟩)) (fun W hC => by go_simp) ?_
  go_frame
  refine planE_val (some 21) rfl rfl rfl (.pointer (some ⟨rb, 2, none⟩)) (fun W hC => by go_simp) ?_
  go_frame
  refine planE_val (some 22) rfl rfl rfl ((.slice pp R.puts.length cp)) (fun W hC => by have hcv := hC.2; go_simp) ?_
  go_frame
  refine planE_one (some 23) rfl rfl rfl (v := .slice pP R.puts.length kP) (w' := YP) (exec_appendD rfl rfl rfl hrunP) CP2 ?_
  go_frame
  refine planE_val (some 24) rfl rfl rfl (.pointer (some ⟨nb, 2, none⟩)) (fun W hC => by go_simp) ?_
  go_frame
  have eP := CP2.1
  refine planE_last none rfl rfl rfl (w' := YP.setCell ⟨nb, 2, none⟩ (.slice pP R.puts.length kP)) (by go_simp) ?_
  go_frame
  rw [hZP]
  refine then_normalD ?_
  go_at_K
  go_wp2_with fail
  try rw [hXF]
  refine wp_region_planE (fun W => W.cell? ⟨nb, 7, none⟩ = some (.slice none 0 0) ∧ W.cell? ⟨rb, 7, none⟩ = some (.slice pf R.fails.length cf)) 8 [.take 0, .take 1, .take 2, .take 3, .take 4, .take 5, .one 6, .take 7, .one 8] mixedP (by kernel_rfl) rfl (by kernel_rfl) (by kernel_rfl) rfl (fun _ _ _ d _ h => by cases d <;> exact h) CF1 ?_
  refine planE_val (some 26) rfl rfl rfl (.pointer (some ⟨nb, 7, none⟩)) (fun W hC => by go_simp) ?_
  go_frame
  refine planE_val (some 27) rfl rfl rfl (.slice none 0 0) (fun W hC => by have hcv := hC.1; go_simp) ?_
  go_frame
  refine planE_val (some 28) rfl rfl rfl (.pointer (some ⟨rb, 0, none⟩)) (fun W hC => by go_simp) ?_
  go_frame
  refine planE_val (some 29) rfl rfl rfl (.pointer (some ⟨rb, 0, none⟩)) (fun W hC => by go_simp) ?_
  go_frame
  refine planE_val (some 30) rfl rfl rfl (.pointer (some ⟨rb, 7, none⟩)) (fun W hC => by go_simp) ?_
  go_frame
  refine planE_val (some 31) rfl rfl rfl ((.slice pf R.fails.length cf)) (fun W hC => by have hcv := hC.2; go_simp) ?_
  go_frame
  refine planE_one (some 32) rfl rfl rfl (v := .slice pF R.fails.length kF) (w' := YF) (exec_appendD rfl rfl rfl hrunF) CF2 ?_
  go_frame
  refine planE_val (some 33) rfl rfl rfl (.pointer (some ⟨nb, 7, none⟩)) (fun W hC => by go_simp) ?_
  go_frame
  have eF := CF2.1
  refine planE_last none rfl rfl rfl (w' := YF.setCell ⟨nb, 7, none⟩ (.slice pF R.fails.length kF)) (by go_simp) ?_
  go_frame
  rw [hZF]
  refine then_normalD ?_
  go_at_K
  go_wp2_with fail
  go_ret
  exact ⟨nb, _, _, _, rfl, FIN.out⟩
end
end Go.Proofs.Ytonmjkalkkfhhaa
