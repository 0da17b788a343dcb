/-
  What the document's calls of set and Sync do.
-/
import Derived.Test.YtonmjkalkkfhhaaDRWriteW
namespace Go.Proofs.Ytonmjkalkkfhhaa
open Go Go.RowKit Go.Maps

/-- What a call of the document's device leaves: what is older, and what is of the program's kinds. -/
def Other (base : Nat) (w : World) (k : Nat) : Prop := k < base ∨ ∀ cur t f, w.heap[k]? = some (.cells cur t f) → t = 60 ∨ t = 73 ∨ t = 30
structure RKeep (base : Nat) (w w' : World) : Prop where
  os : w'.os = w.os
  tape : w'.tape = w.tape
  output : w'.output = w.output
  size : w.heap.size ≤ w'.heap.size
  block : ∀ k, k < w.heap.size → Other base w k → w'.heap[k]? = w.heap[k]?
theorem RKeep.refl (base : Nat) (w : World) : RKeep base w w := ⟨rfl, rfl, rfl, Nat.le_refl _, fun _ _ _ => rfl⟩
theorem RKeep.trans {base : Nat} {w w1 w2 : World} (h : RKeep base w w1) (k : RKeep base w1 w2) : RKeep base w w2 :=
  ⟨k.os.trans h.os, k.tape.trans h.tape, k.output.trans h.output, Nat.le_trans h.size k.size, fun i hi ho => by
    have e := h.block i hi ho
    refine (k.block i (Nat.lt_of_lt_of_le hi h.size) ?_).trans e
    unfold Other
    rw [e]
    exact ho⟩
theorem RKeep.below {base : Nat} {w w' : World} (h : Below w.heap.size w w') : RKeep base w w' := ⟨h.os, h.tape, h.output, h.size, fun k hk _ => h.block k hk⟩
section
variable {w w' : World} {base rb : Nat} {vl vp vf : Value} {R : RDev}
theorem RAt.keep (h : RAt w base rb vl vp vf R) (k : Keep (RB rb vl vp vf) w w') : RKeep base w w' :=
  ⟨k.os, k.tape, k.output, k.size, fun i hi ho => k.block i hi fun q => by
    obtain ⟨h1, cur, t, h2, h3, h4, h5⟩ := h.obj q
    rcases ho with ho | ho
    · omega
    · rcases ho _ _ _ h2 with e | e | e
      · exact h3 e
      · exact h4 e
      · exact h5 e⟩
theorem RAt.only (h : RAt w base rb vl vp vf R) (o : Only rb w w') : RKeep base w w' := h.keep (Keep.only o (.inl rfl))
end
theorem infoStr : ∃ i, Try.prog.info? 9 = some i ∧ i.zero = some (.string ⟨#[]⟩) ∧ i.size = 1 ∧ i.bytes = 16 := by
  have h : (Try.prog.info? 9).map (fun i => (i.zero, i.size, i.bytes)) = some (some (.string ⟨#[]⟩), 1, 16) := by kernel_rfl
  cases hi : Try.prog.info? 9 with
  | none => rw [hi] at h; cases h
  | some i =>
    rw [hi] at h
    simp only [Option.map_some, Option.some.injEq, Prod.mk.injEq] at h
    exact ⟨i, rfl, h⟩
theorem underStrs : Try.prog.underlying 42 = some (.slice 9) := by kernel_rfl
def lenAt (w : World) (rb : Nat) : Nat := match w.cell? ⟨rb, 1, none⟩ with | some (.slice _ n _) => n | _ => 0
section
variable {w : World} {base rb : Nat} {vl vp vf : Value} {R : RDev}
theorem RAt.lenAt (h : RAt w base rb vl vp vf R) : lenAt w rb = R.lasts.length := by
  obtain ⟨p, c, e⟩ := slice_of h.lasts
  have : w.cell? ⟨rb, 1, none⟩ = some vl := h.cells.cell 1
  unfold Go.Proofs.Ytonmjkalkkfhhaa.lenAt
  rw [this, e]
set_option maxRecDepth 8000 in
set_option maxHeartbeats 4000000 in
theorem rset_any (h : RAt w base rb vl vp vf R) (n : Int) (hn : 0 ≤ n ∧ n < 65536) (s : ByteArray) (hl : R.lasts.length ≤ 65536) :
    Calls Try.prog 43 #[.pointer (some ⟨rb, 0, none⟩), .int .i64 n, .string s] w fun e w' => e = .returned (.tuple #[]) ∧ RKeep base w w' ∧ ∃ vl', RAt w' base rb vl' vp vf { R with lasts := setL R.lasts n.toNat s } := by
  obtain ⟨m, rfl⟩ : ∃ m : Nat, n = m := ⟨n.toNat, by omega⟩
  rw [Int.toNat_natCast]
  have hm : m < 65536 := by omega
  obtain ⟨i0, hi0, hz0, hz1, hz2⟩ := infoStr
  have HI : Hid (Try.prog.info? 9 = some i0 ∧ i0.zero = some (.string ⟨#[]⟩) ∧ i0.size = 1 ∧ i0.bytes = 16) := ⟨hi0, hz0, hz1, hz2⟩
  have H0 : Hid (RAt w base rb vl vp vf R) := h
  clear hi0 hz0 hz1 hz2 h hn
  go_enter Try.func43, Try.ntmps43
  go_wp2_with fail
  go_loopw [] (fun wr => ∃ (j : Nat) (v : Value), RAt wr base rb v vp vf { R with lasts := R.lasts ++ List.replicate j noText } ∧ (j = 0 ∨ R.lasts.length + j ≤ m + 1) ∧ RKeep base w wr) (fun wr => m + 1 - lenAt wr rb)
  case atStart => exact ⟨0, vl, by simpa using H0.out, .inl rfl, RKeep.refl _ _⟩
  case round =>
    obtain ⟨j, v, hR, hj, hK⟩ := hrel
    have hlen := hR.lenAt
    simp only [List.length_append, List.length_replicate] at hlen
    have c1 : wr.cell? ⟨rb, 1, none⟩ = some v := hR.cells.cell 1
    have f1 := hR.cells.frozen 1
    obtain ⟨p, cap, hv⟩ := slice_of hR.lasts
    have hbs : base ≤ wr.heap.size := by have := hR.new; have := hR.cells.lt; omega
    simp only [List.length_append, List.length_replicate] at hv
    obtain ⟨L, hL⟩ : ∃ L, L = R.lasts.length + j := ⟨_, rfl⟩
    rw [← hL] at hv hlen
    have HLN : Hid (L = R.lasts.length + j ∧ lenAt wr rb = L ∧ (j = 0 ∨ R.lasts.length + j ≤ m + 1)) := ⟨hL, hlen, hj⟩
    have hLb : L ≤ 70000 := by omega
    have HK : Hid (RKeep base w wr) := hK
    subst hv
    clear hL hlen hj hK
    by_cases hle : L ≤ m
    · have hlei : (L : Int) ≤ m := by omega
      have hLi : (L : Int) ≤ 70000 := by omega
      have hown := hR.lasts
      simp only [List.length_append, List.length_replicate] at hown
      rw [← HLN.out.1] at hown
      go_wp2_with (at_builtin; refine wpList_append_own _ rfl _ _ 42 rfl base 9 i0 (.string ⟨#[]⟩) 1 16 underStrs HI.out.1 HI.out.2.1 HI.out.2.2.1 HI.out.2.2.2 rfl (by decide) _ _ _ rfl (hown.alloc _) ⟨wr.heap.size, 0, none⟩ 1 1 [.string ⟨#[]⟩] rfl rfl (cells_newD _ _ _) (by simp [Value.oneCell']) (by unfold maxLen; omega) (by omega) (by simp; omega) ?_; intro v5 w5 hown5 hgrow5 hnil5; clear hnil5; obtain ⟨p5, k5, rfl⟩ := slice_of hown5; have hH5 := grown_holdsD hgrow5 hR.cells hR.ne.1; have c15 : w5.cell? ⟨rb, 1, none⟩ = some (.slice p L cap) := hH5.cell 1; have f15 := hH5.frozen 1)
      have hr := hR.rowL hgrow5 (L := R.lasts ++ List.replicate (j + 1) noText) (vl' := .slice p5 (L + 1) k5) (by
        rw [List.replicate_succ', ← List.append_assoc, List.length_append, List.map_append, List.length_append, List.length_replicate, ← HLN.out.1]
        exact hown5)
      have hl2 := hr.1.lenAt
      simp only [List.length_append, List.length_replicate] at hl2
      refine ⟨⟨j + 1, _, hr.1, .inr (by have := HLN.out.1; omega), HK.out.trans (hR.keep hr.2)⟩, ?_⟩
      have := HLN.out
      omega
    · have hlei : ¬ (L : Int) ≤ m := by omega
      have hmi : (m : Int) < L := by omega
      have hown := hR.lasts
      have hpos : 0 < L := by omega
      rcases hown.2 with ⟨e, _⟩ | ⟨g, cap', cur, e, _, _, _⟩
      · injection e with _ e; omega
      · injection e with e1 e2 e3
        subst e1 e3
        clear e2
        simp only [List.length_append, List.length_replicate] at hown
        rw [← HLN.out.1] at hown
        have hst := hown.stored m (.string s)
        have hcm : wr.cell? ⟨g, m, none⟩ = ((R.lasts ++ List.replicate j noText).map fun s => Value.string s)[m]? := hown.cellAt m (by omega)
        have hfm := hown.frozenAt m
        obtain ⟨x, hx⟩ : ∃ x, (R.lasts ++ List.replicate j noText)[m]? = some x := ⟨_, List.getElem?_eq_getElem (by have := HLN.out.1; simp; omega)⟩
        rw [List.getElem?_map, hx] at hcm
        simp only [Option.map_some] at hcm
        have HR : Hid _ := hR
        have HS : Hid _ := hst
        clear hst hx hown hR
        go_wp2_with fail
        go_end0
        have hR := HR.out
        have hst := HS.out
        have hgr : rb ≠ g := fun q => hR.ne.1 (by rw [q]; rfl)
        have hsl : setL R.lasts m s = (R.lasts ++ List.replicate j noText).set m s := by
          unfold setL
          have h1 := HLN.out.1
          have h2 := HLN.out.2.2
          rw [show m + 1 - R.lasts.length = j by omega]
        have hkk : ∀ k, k ≠ g → (wr.setCell ⟨g, m, none⟩ (.string s)).heap[k]? = wr.heap[k]? := fun k hk => Below.heap_setCell _ _ _ _ hk
        refine ⟨rfl, HK.out.trans (hR.keep ⟨rfl, rfl, rfl, by simp, fun k _ hk => hkk k fun q => hk (.inr (.inl (by rw [q]; rfl)))⟩), .slice (some ⟨g, 0, none⟩) L cap, ⟨?_, ?_, owns_keep hR.puts fun k hk => hkk k fun q => owns_ne hR.puts hR.lasts (by decide) hk (by rw [q]; rfl), owns_keep hR.fails fun k hk => hkk k fun q => owns_ne hR.fails hR.lasts (by decide) hk (by rw [q]; rfl), hR.new⟩⟩
        · have := hR.cells
          unfold Holds at *
          rw [hkk rb hgr]
          exact this
        · rw [hsl]
          have h1 := hst.1
          rw [List.length_set, List.length_append, List.length_replicate, ← HLN.out.1, List.map_set]
          exact h1
end
section
variable {ops : Array Oper} {C : World → Prop} {Q : Exit → Act → World → Prop} {t : List Plan} {k : Nat} {op : Oper} {a : Act} {w : World}
theorem plan_ldPs (d : Option Tmp) (hdd : op.dst = d) (hk : ops[k]?.getD default = op) (hgd : op.guard = none) (x : Operand) (ho : op.op = .load 43 x) {ad : Addr} (hx : a.eval x = .pointer (some ad)) {v : Value} (hh : ∀ w, C w → w.cell? ad = some v)
    (h : wpPlan Try.prog ops C Q t (a.put d v) w) : wpPlan Try.prog ops C Q (.take k :: t) a w := by
  refine ⟨by rw [hk]; simp [Region.wanted, hgd], v, fun w' hw => ?_, by rw [hk, hdd]; exact h⟩
  rw [hk]
  have hl : (loadVar 43 ad).run Try.prog w' = .ok v w' := by simp [go_sem, hh w' hw]
  unfold execOp
  simp only [ho, hx, Instr.loadAt, Instr.sureAddr, Sem.run_bind, Sem.run_pure, Result.andThen_ok, hl]
theorem plan_ldS (d : Option Tmp) (hdd : op.dst = d) (hk : ops[k]?.getD default = op) (hgd : op.guard = none) (x : Operand) (ho : op.op = .load 9 x) {ad : Addr} (hx : a.eval x = .pointer (some ad)) {v : Value} (hh : ∀ w, C w → w.cell? ad = some v)
    (h : wpPlan Try.prog ops C Q t (a.put d v) w) : wpPlan Try.prog ops C Q (.take k :: t) a w := by
  refine ⟨by rw [hk]; simp [Region.wanted, hgd], v, fun w' hw => ?_, by rw [hk, hdd]; exact h⟩
  rw [hk]
  have hl : (loadVar 9 ad).run Try.prog w' = .ok v w' := by simp [go_sem, hh w' hw]
  unfold execOp
  simp only [ho, hx, Instr.loadAt, Instr.sureAddr, Sem.run_bind, Sem.run_pure, Result.andThen_ok, hl]
end
theorem inBlock_normal {n : Nat} {Q : Exit → Act → World → Prop} {a : Act} {w : World} (h : Q .normal a w) : Exit.inBlock n Q .normal a w := h
theorem setL_len (l : List ByteArray) (n : Nat) (s : ByteArray) (h : l.length ≤ 65536) (hn : n < 65536) : (setL l n s).length ≤ 65536 := by
  unfold setL
  rw [List.length_set, List.length_append, List.length_replicate]
  omega
theorem syncL_app : ∀ (L : List (Int × ByteArray)) (p : Int × ByteArray) (l : List ByteArray), syncL (L ++ [p]) l = setL (syncL L l) p.1.toNat p.2
  | [], _, _ => rfl
  | q :: L, p, l => by
    rw [List.cons_append, syncL, syncL, syncL_app L p]
theorem syncL_len : ∀ (L : List (Int × ByteArray)) (l : List ByteArray), l.length ≤ 65536 → (∀ p ∈ L, (0 ≤ p.1 ∧ p.1 < 65536) ∧ p.2.size = 1024) → (syncL L l).length ≤ 65536
  | [], _, h, _ => h
  | p :: L, l, h, hp => by
    rw [syncL]
    exact syncL_len L _ (setL_len _ _ _ h (by have := (hp p List.mem_cons_self).1; omega)) fun q hq => hp q (List.mem_cons_of_mem _ hq)
theorem syncL_take {L : List (Int × ByteArray)} {i : Nat} {p : Int × ByteArray} (h : L[i]? = some p) (l : List ByteArray) : syncL (L.take (i + 1)) l = setL (syncL (L.take i) l) p.1.toNat p.2 := by
  rw [List.take_add_one, h]
  exact syncL_app _ _ _
section
variable {w : World} {base rb : Nat} {vl vp vf : Value} {R : RDev}
/-- No writes that don't last. -/
theorem RAt.noPuts (h : RAt w base rb vl vp vf R) : RAt (w.setCell ⟨rb, 2, none⟩ (.slice none 0 0)) base rb vl (.slice none 0 0) vf { R with puts := [] } := by
  have o := (Only.refl rb w).set 2 (.slice none 0 0)
  exact ⟨(h.cells.set 2 _).congr rfl, h.keptL o, World.ownsRow_nil _ _ _ _, h.keptF o, h.new⟩
set_option maxRecDepth 8000 in
set_option maxHeartbeats 4000000 in
theorem rsync_any (h : RAt w base rb vl vp vf R) {N : Nat} (ok : R.ok N) (hN : N < 1000000000) :
    Calls Try.prog 15 #[.pointer (some ⟨rb, 0, none⟩)] w fun e w' => e = .returned (.int .i64 R.sync.1) ∧ RKeep base w w' ∧ ∃ vl' vp', RAt w' base rb vl' vp' vf R.sync.2 := by
  have hc3 : w.cell? ⟨rb, 3, none⟩ = some (.bool R.off) := h.cells.cell 3
  obtain ⟨A, hA⟩ : ∃ A, A = R.sync := ⟨_, rfl⟩
  rw [← hA]
  unfold RDev.sync RDev.begin at hA
  have HA : Hid _ := hA
  clear hA
  cases hof : R.off
  · rw [hof] at hc3
    rw [hof] at HA
    simp only [Bool.false_eq_true, if_false, if_true] at HA
    clear hof
    have hg := goes_any h ok.left (by have := ok.since; omega) (by have := ok.done; omega) ok.fails
    have hlg := rgoes_last R 0
    obtain ⟨e0, he0⟩ : ∃ e0, e0 = R.goes.1 := ⟨_, rfl⟩
    rw [← he0] at hg
    have HE : Hid (e0 = R.goes.1) := he0
    have HG : Hid (R.goes.2.last 0 = R.last 0 ∧ R.goes.2.lasts = R.lasts ∧ R.goes.2.puts = R.puts) := hlg
    have HO : Hid (R.ok N) := ok
    have H0 : Hid (RAt w base rb vl vp vf R) := h
    clear he0 hlg ok h
    by_cases hz : e0 = 0
    · subst hz
      have hA : Hid (A = (0, { R.goes.2 with lasts := syncL R.puts R.lasts, puts := [] })) := by
        unfold Hid
        rw [HA.out, ← HE.out]
        exact if_pos rfl
      clear HA
      go_enter Try.func15, Try.ntmps15
      go_wp2_with fail
      refine hg.mono ?_
      rintro e w1 ⟨rfl, h1', hO1⟩
      have F0 : Hid (RAt w1 base rb vl vp vf R.goes.2 ∧ RKeep base w w1) := ⟨h1', H0.out.only hO1⟩
      clear hg hc3 h1' hO1
      go_wp2_with fail
      go_loopw [4] (fun y wr => ∃ (i : Nat) (v : Value), y = .int .i64 (i : Nat) ∧ i ≤ R.puts.length ∧ RAt wr base rb v vp vf { R.goes.2 with lasts := syncL (R.puts.take i) R.lasts } ∧ RKeep base w wr) (fun y _ => R.puts.length - (intOf y).toNat)
      case atStart => exact ⟨0, vl, rfl, Nat.zero_le _, by have := F0.out.1; rw [List.take_zero, syncL, ← HG.out.2.1]; exact this, F0.out.2⟩
      case round =>
        clear F0
        obtain ⟨i, v, rfl, hi, hR, hK⟩ := hrel
        have c2 : wr.cell? ⟨rb, 2, none⟩ = some vp := hR.cells.cell 2
        have f2 := hR.cells.frozen 2
        have HF : Hid (RAt wr base rb v vp vf { R.goes.2 with lasts := syncL (R.puts.take i) R.lasts } ∧ RKeep base w wr) := ⟨hR, hK⟩
        obtain ⟨M, hM⟩ : ∃ M, M = R.puts.length := ⟨_, rfl⟩
        have hMb := HO.out.puts
        rw [← hM] at hi hMb
        have hMi : (M : Int) ≤ 1000000000 := by omega
        have hrow : wr.ownsRow base 71 2 vp R.puts.length (wcells R.puts) := by have := hR.puts; rw [show ({ R.goes.2 with lasts := syncL (R.puts.take i) R.lasts } : RDev).puts = R.puts from HG.out.2.2] at this; exact this
        by_cases hil : i < M
        · have hii : (i : Int) < M := by omega
          obtain ⟨p, hx⟩ : ∃ p, R.puts[i]? = some p := ⟨_, List.getElem?_eq_getElem (by omega)⟩
          obtain ⟨gp, cap, hvp, hcx, hcy⟩ := put_at hrow hx
          rw [← hM] at hvp
          have HN : Hid (M = R.puts.length) := hM
          have HX : Hid (∀ l, syncL (R.puts.take (i + 1)) l = setL (syncL (R.puts.take i) l) p.1.toNat p.2) := fun l => syncL_take hx l
          have hpp := (HO.out.pages p (List.mem_of_getElem? hx)).1
          have hlen := syncL_len (R.puts.take i) R.lasts HO.out.lasts fun q hq => HO.out.pages q (List.mem_of_mem_take hq)
          have hdr : RAt wr.drew base rb v vp vf { R.goes.2 with lasts := syncL (R.puts.take i) R.lasts } := hR.same fun _ _ => rfl
          have hset := rset_any hdr p.1 hpp p.2 hlen
          have hcl : Hid (∀ (W : World) (v' : Value) (l' : List ByteArray), RAt W base rb v' vp vf { R.goes.2 with lasts := l' } → W.cell? ⟨rb, 2, none⟩ = some vp ∧ W.cell? ⟨gp, i * 2, none⟩ = some (.int .i64 p.1) ∧ W.cell? ⟨gp, i * 2 + 1, none⟩ = some (.string p.2)) := fun W v' l' hW => by
            have hq : W.ownsRow base 71 2 vp R.puts.length (wcells R.puts) := by have := hW.puts; rw [show ({ R.goes.2 with lasts := l' } : RDev).puts = R.puts from HG.out.2.2] at this; exact this
            obtain ⟨g', cap', e, hc1, hc2⟩ := put_at hq hx
            rw [hvp] at e
            injection e with e1
            injection e1 with e1
            injection e1 with e1
            subst e1
            exact ⟨hW.cells.cell 2, hc1, hc2⟩
          subst hvp
          have H1 := hcl.out wr.drew _ _ hdr
          clear hR hK hM hx hrow
          go_wp2_with fail
          refine wp_region_plan (fun W => W.cell? ⟨rb, 2, none⟩ = some (.slice (some ⟨gp, 0, none⟩) M cap) ∧ W.cell? ⟨gp, i * 2, none⟩ = some (.int .i64 p.1) ∧ W.cell? ⟨gp, i * 2 + 1, none⟩ = some (.string p.2)) [.take 0, .take 1, .take 2, .take 3, .take 4, .take 5, .take 6, .take 7, .take 8, .take 9, .take 10, .take 11, .take 12, .take 13, .take 14, .take 15, .take 16, .one 17] mixedP (by kernel_rfl) rfl (by kernel_rfl) (fun _ _ _ d _ h => by cases d <;> exact h) H1 ?_
          refine plan_val (some 23) rfl rfl rfl (.pointer (some ⟨rb, 0, none⟩)) (fun _ => by go_simp) ?_
          go_frame
          refine plan_val (some 24) rfl rfl rfl (.pointer (some ⟨rb, 0, none⟩)) (fun _ => by go_simp) ?_
          go_frame
          refine plan_val (some 25) rfl rfl rfl (.pointer (some ⟨rb, 0, none⟩)) (fun _ => by go_simp) ?_
          go_frame
          refine plan_val (some 26) rfl rfl rfl (.pointer (some ⟨rb, 2, none⟩)) (fun _ => by go_simp) ?_
          go_frame
          refine plan_ldPs (some 27) rfl rfl rfl _ rfl rfl (v := .slice (some ⟨gp, 0, none⟩) M cap) (fun W hW => hW.1) ?_
          go_frame
          refine plan_val (some 28) rfl rfl rfl (.int .i64 (i : Nat)) (fun _ => by go_simp) ?_
          go_frame
          refine plan_val (some 29) rfl rfl rfl (.pointer (some ⟨gp, i * 2, none⟩)) (fun _ => by go_simp) ?_
          go_frame
          refine plan_val (some 30) rfl rfl rfl (.pointer (some ⟨gp, i * 2, none⟩)) (fun _ => by go_simp) ?_
          go_frame
          refine plan_ldI (some 31) rfl rfl rfl _ rfl rfl (v := .int .i64 p.1) (fun W hW => hW.2.1) ?_
          go_frame
          refine plan_val (some 32) rfl rfl rfl (.pointer (some ⟨rb, 0, none⟩)) (fun _ => by go_simp) ?_
          go_frame
          refine plan_val (some 33) rfl rfl rfl (.pointer (some ⟨rb, 0, none⟩)) (fun _ => by go_simp) ?_
          go_frame
          refine plan_val (some 34) rfl rfl rfl (.pointer (some ⟨rb, 2, none⟩)) (fun _ => by go_simp) ?_
          go_frame
          refine plan_ldPs (some 35) rfl rfl rfl _ rfl rfl (v := .slice (some ⟨gp, 0, none⟩) M cap) (fun W hW => hW.1) ?_
          go_frame
          refine plan_val (some 36) rfl rfl rfl (.int .i64 (i : Nat)) (fun _ => by go_simp) ?_
          go_frame
          refine plan_val (some 37) rfl rfl rfl (.pointer (some ⟨gp, i * 2, none⟩)) (fun _ => by go_simp) ?_
          go_frame
          refine plan_val (some 38) rfl rfl rfl (.pointer (some ⟨gp, i * 2 + 1, none⟩)) (fun _ => by go_simp) ?_
          go_frame
          refine plan_ldS (some 39) rfl rfl rfl _ rfl rfl (v := .string p.2) (fun W hW => hW.2.2) ?_
          go_frame
          refine plan_call (some 40) rfl (f := 43) (vs := #[.pointer (some ⟨rb, 0, none⟩), .int .i64 p.1, .string p.2]) rfl rfl (by go_simp) (hset.mono ?_)
          rintro e w4 ⟨rfl, hK4', v4, hR4⟩
          have hK4 : RKeep base wr w4 := (RKeep.below (Below.refl _ _).drew).trans hK4'
          refine ⟨_, rfl, hcl.out w4 _ _ hR4, ?_⟩
          clear hset
          go_frame
          refine inBlock_normal (then_normalD ?_)
          go_at_K
          go_wp2_with fail
          refine ⟨⟨i + 1, v4, by go_num, by have := HN.out; omega, ?_, HF.out.2.trans hK4⟩, by simp [intOf]; have := HN.out; omega⟩
          rw [HX.out]
          exact hR4
        · have hii : ¬ (i : Int) < M := by omega
          obtain ⟨pf, cap, hvp⟩ := slice_of hrow
          rw [← hM] at hvp
          have HV : Hid (vp = .slice pf M cap) := hvp
          rw [hvp] at c2
          have hti : Hid (R.puts.take i = R.puts) := List.take_of_length_le (by omega)
          rw [hti.out] at HF
          clear hvp hM hR hK hrow
          go_wp2_with fail
          go_ret
          rw [hA.out]
          exact ⟨rfl, HF.out.2.trans (HF.out.1.only ((Only.refl _ _).set 2 _)), _, _, HF.out.1.noPuts⟩
    · have hzb : (e0 == 0) = false := beq_eq_false_iff_ne.2 hz
      have hA : Hid (A = (e0, R.goes.2)) := by
        unfold Hid
        rw [HA.out, if_neg (by rw [← HE.out]; exact hz), HE.out]
      clear HA
      go_enter Try.func15, Try.ntmps15
      go_wp2_with fail
      refine hg.mono ?_
      rintro e w1 ⟨rfl, h1', hO1⟩
      go_wp2_with fail
      go_ret
      rw [hA.out]
      exact ⟨rfl, H0.out.only hO1, _, _, h1'⟩
  · rw [hof] at hc3
    rw [hof] at HA
    have hA : Hid (A = (15, R)) := HA.out
    go_enter Try.func15, Try.ntmps15
    go_wp2_with fail
    go_ret
    rw [hA.out]
    exact ⟨rfl, RKeep.refl _ _, _, _, h⟩
end
end Go.Proofs.Ytonmjkalkkfhhaa
