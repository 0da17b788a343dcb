/-
  DiskCopies' walk.
-/
import Derived.Test.YtonmjkalkkfhhaaDOpsArg
namespace Go.Proofs.Ytonmjkalkkfhhaa
open Go Go.RowKit Go.Maps

theorem and_seven (x : Int) : bits .and .i64 x 7 = x % 8 := by
  unfold bits
  have e : (7 : Nat) % 2 ^ IntKind.i64.bits = 2 ^ 3 - 1 := by decide
  have e2 : (2 : Int) ^ IntKind.i64.bits = 18446744073709551616 := by decide
  simp
  rw [e, Nat.and_two_pow_sub_one_eq_mod, e2, IntKind.wrap_i64]
  omega
theorem write_size (D : Dev) (n : Int) (s : ByteArray) : (D.write n s).2.size = D.size := by
  unfold Dev.write
  split <;> exact (begin_pages D _).2.2.2
theorem sync_size (D : Dev) : D.sync.2.size = D.size := by
  unfold Dev.sync
  split <;> exact (begin_pages D _).2.2.2
/-- A copy beside its device that has crashed. -/
theorem crash_other {w w' : World} {hd he : Hd} {D : Dev} (ad : DiskAt w hd D) (ae : DiskAt w he D) (hfo : he.fo = hd.fo) (hwv : he.wv = full hd.wv) (hdis : ∀ k, Foot hd k → ¬ (k = he.b ∨ he.po = some k)) (hK : Keep (Foot hd) w w') (hrow : WRow w' hd.wv D.writes) : DiskAt w' he D := by
  refine ⟨hK.holds ae.ptr fun q => hdis _ q (.inl rfl), ae.pages.block fun m e => hK.block m (ae.pages.lt m e) fun q => hdis _ q (.inr e), by rw [hwv]; exact full_row hrow, ?_, ae.apart⟩
  obtain ⟨n, hf⟩ := ae.fails
  refine ⟨n, hf.block fun m e => hK.block m (hf.lt m e) ?_⟩
  obtain ⟨es, clock, hob⟩ := hf.obj m e
  rintro (q | q | ⟨_, _, q, _⟩)
  · have := ad.ptr
    unfold Holds at this
    rw [← q, hob] at this
    cases this
  · exact ad.apart m (by rw [← hfo]; exact e) q
  · obtain ⟨cur, hq⟩ := ad.writes.obj m (by rw [q]; rfl)
    rw [hob] at hq
    cases hq
/-- Two devices that have nothing in common. -/
def Apart (h g : Hd) : Prop := ∀ k, (k = h.b ∨ h.po = some k) → ¬ (k = g.b ∨ g.po = some k)
theorem foot_bare {h : Hd} (hw : h.wv = .slice none 0 0) {k : Nat} (f : Foot h k) : k = h.b ∨ h.po = some k := by
  rcases f with f | f | ⟨_, _, f, _⟩
  · exact .inl f
  · exact .inr f
  · rw [hw] at f; cases f
theorem blk_bare {h : Hd} (hw : h.wv = .slice none 0 0) (hf : h.fo = none) {k : Nat} (f : Blk h k) : k = h.b ∨ h.po = some k := by
  rcases f with f | f | f | f
  · exact .inl f
  · exact .inr f
  · rw [hf] at f; cases f
  · rw [hw] at f; cases f
/-- A device that reads as it should. -/
structure Calm (N : Nat) (E : Dev) : Prop where
  ok : E.ok N
  size : E.size = 8
  off : E.off = false
  armed : E.armed = false
  fails : E.fails = fun _ => none
theorem Calm.read {N : Nat} {E : Dev} (h : Calm N E) {j : Nat} (hj : j < 8) : E.read (j : Int) = ((((E.pages (j : Int)).map (·.1)).getD zeros), 0, { E with count := E.count + 1, ops := E.ops + 1 }) ∧ Calm (N + 1) { E with count := E.count + 1, ops := E.ops + 1 } := by
  have hr := read_free (D := E) h.off h.armed (by rw [h.fails]) (n := (j : Int)) (by omega) (by rw [h.size]; omega)
  have hok := read_ok h.ok (j : Int)
  rw [hr] at hok
  exact ⟨hr, hok, h.size, h.off, h.armed, h.fails⟩
section
variable {ops : Array Oper} {C : World → Prop} {Q : Exit → Act → World → Prop} {t : List Plan} {k : Nat} {op : Oper} {a : Act} {w : World}
theorem plan_ldU (d : Option Tmp) (hdd : op.dst = d) (hk : ops[k]?.getD default = op) (hgd : op.guard = none) (x : Operand) (ho : op.op = .load 5 x) {ad : Addr} (hx : a.eval x = .pointer (some ad)) {v : Value} (hh : ∀ w, C w → w.cell? ad = some v)
    (h : wpPlan Try.prog ops C Q t (a.put d v) w) : wpPlan Try.prog ops C Q (.take k :: t) a w := by
  refine ⟨by rw [hk]; simp [Region.wanted, hgd], v, fun w' hw => ?_, by rw [hk, hdd]; exact h⟩
  rw [hk]
  have hl : (loadVar 5 ad).run Try.prog w' = .ok v w' := by simp [go_sem, hh w' hw]
  unfold execOp
  simp only [ho, hx, Instr.loadAt, Instr.sureAddr, Sem.run_bind, Sem.run_pure, Result.andThen_ok, hl]
end

set_option maxRecDepth 100000 in
set_option maxHeartbeats 8000000 in
theorem copies_walk {w : World} {p : Option Addr} {n c : Nat} {L : List (Int × UInt8)} (hx : OpsAt w p n L) (hnc : n ≤ c) (hc : c ≤ 9223372036854775807)
    {p2 : Option Addr} {n2 c2 : Nat} {L2 : List (Int × UInt8)} (hx2 : OpsAt w p2 n2 L2) (hnc2 : n2 ≤ c2) (hc2 : c2 ≤ 9223372036854775807)
    {p3 : Option Addr} {n3 c3 : Nat} {l : List Int} (hl : IntsAt w (.slice p3 n3 c3) l) (hn3 : n3 = l.length) (hnc3 : n3 ≤ c3) (hc3 : c3 ≤ 9223372036854775807) :
    Calls Try.prog 8 #[.slice p n c, .slice p2 n2 c2, .slice p3 n3 c3] w fun e w' => e = .returned (.bool true) ∧ Below w.heap.size w w' := by
  have hq := ptr_eql
  subst hn3
  have hlm : l.length ≤ 9223372036854775807 := by omega
  have hni : (n : Int) ≤ 9223372036854775807 := by omega
  have hni2 : (n2 : Int) ≤ 9223372036854775807 := by omega
  have hand := and_seven
  go_enter Try.func8, Try.ntmps8
  go_wp2_with fail
  refine (awake_any _).mono ?_
  rintro e w1 ⟨rfl, hB1⟩
  go_wp2_with fail
  refine (own_new 8 _).mono ?_
  rintro e w2 ⟨b, rfl, o0⟩
  have o0' : Own w w2 b (Dev.new 8) := by
    obtain ⟨h, q1, q2, q3, q4⟩ := o0
    exact ⟨h, q1, q2, fun k hk => by have := q3 k hk; have := hB1.size; omega, below_new hB1 q4⟩
  clear o0 hB1
  have hok0 := Dev.new_ok 8 0
  have hsz0 : (Dev.new 8).size = 8 := rfl
  generalize Dev.new 8 = D0 at o0' hok0 hsz0
  go_wp2_with fail
  go_loopw [9] (fun y wr => ∃ (i : Nat) (D : Dev), y = .int .i64 (i : Nat) ∧ i ≤ 20 ∧ Own w wr b D ∧ D.ok (2 * i) ∧ D.size = 8) (fun y _ => 20 - (intOf y).toNat)
  case atStart => exact ⟨0, D0, rfl, by omega, o0', hok0, hsz0⟩
  case round =>
    clear o0' hok0 hsz0
    obtain ⟨i, D, rfl, hi20, o, hok, hsz⟩ := hrel
    by_cases hi : i < n ∧ i < 20
    · obtain ⟨hi1, hi2⟩ := hi
      have hi1i : (i : Int) < n := by omega
      have hi2i : (i : Int) < 20 := by omega
      obtain ⟨⟨t1, t2⟩, ht⟩ : ∃ t, L[i]? = some t := ⟨_, List.getElem?_eq_getElem (by have := hx.1; omega)⟩
      rcases hx.2 with h0 | ⟨gb, go, rfl, _⟩
      · omega
      have hcl : ∀ W, Below w.heap.size w W → W.cell? ⟨gb, go + i * 4 + 1, none⟩ = some (.int .i64 t1) ∧ W.cell? ⟨gb, go + i * 4 + 2, none⟩ = some (.int .u8 (t2.toNat : Nat)) := fun W hW => by
        rcases (hx.below hW).2 with h0 | ⟨gb', go', e, hq⟩
        · omega
        · injection e with e
          injection e with e1 e2
          subst e1 e2
          exact hq i _ ht
      go_wp2_with fail
      refine wp_region_plan (fun W => Below w.heap.size w W) [.take 0, .take 1, .take 2, .take 3, .take 4, .take 5, .take 6, .take 7, .take 8, .take 9, .take 10, .take 11, .one 12, .one 13] mixedP (by kernel_rfl) rfl (by kernel_rfl) (fun _ _ _ d _ h => by cases d <;> exact h) o.all.drew ?_
      refine plan_val (some 32) rfl rfl rfl (.pointer (some ⟨b, 0, none⟩)) (fun _ => by go_simp) ?_
      go_frame
      refine plan_val (some 33) rfl rfl rfl (.slice (some ⟨gb, go, none⟩) n c) (fun _ => by go_simp) ?_
      go_frame
      refine plan_val (some 34) rfl rfl rfl (.int .i64 (i : Nat)) (fun _ => by go_simp) ?_
      go_frame
      refine plan_val (some 35) rfl rfl rfl (.pointer (some ⟨gb, go + i * 4, none⟩)) (fun _ => by go_simp) ?_
      go_frame
      refine plan_val (some 36) rfl rfl rfl (.pointer (some ⟨gb, go + i * 4 + 1, none⟩)) (fun _ => by go_simp) ?_
      go_frame
      refine plan_ldI (some 37) rfl rfl rfl _ rfl rfl (v := .int .i64 t1) (fun W hW => (hcl W hW).1) ?_
      go_frame
      refine plan_val (some 38) rfl rfl rfl (.int .i64 (t1 % 8)) (fun _ => by go_simp) ?_
      go_frame
      refine plan_val (some 39) rfl rfl rfl (.slice (some ⟨gb, go, none⟩) n c) (fun _ => by go_simp) ?_
      go_frame
      refine plan_val (some 40) rfl rfl rfl (.int .i64 (i : Nat)) (fun _ => by go_simp) ?_
      go_frame
      refine plan_val (some 41) rfl rfl rfl (.pointer (some ⟨gb, go + i * 4, none⟩)) (fun _ => by go_simp) ?_
      go_frame
      refine plan_val (some 42) rfl rfl rfl (.pointer (some ⟨gb, go + i * 4 + 2, none⟩)) (fun _ => by go_simp) ?_
      go_frame
      refine plan_ldU (some 43) rfl rfl rfl _ rfl rfl (v := .int .u8 (t2.toNat : Nat)) (fun W hW => (hcl W hW).2) ?_
      go_frame
      refine plan_call (some 44) rfl (f := 29) (vs := #[.int .u8 (t2.toNat : Nat)]) rfl rfl (by go_simp) ((fill_any t2 _).mono ?_)
      rintro e wf ⟨rfl, hBf⟩
      have of := (o.drew).below hBf
      refine ⟨_, rfl, of.all, ?_⟩
      go_frame
      have hwr := own_write of hok (by omega) (t1 % 8) (by omega) (fillOf 1024 t2)
      refine plan_call (some 45) rfl (f := 28) (vs := #[.pointer (some ⟨b, 0, none⟩), .int .i64 (t1 % 8), .string (fillOf 1024 t2)]) rfl rfl (by go_simp) (hwr.mono ?_)
      rintro e w5 ⟨rfl, o5⟩
      clear hwr
      refine ⟨_, rfl, o5.all, ?_⟩
      go_frame
      have hok5 := write_ok hok (t1 % 8) (fillOf 1024 t2)
      have hsz5 := write_size D (t1 % 8) (fillOf 1024 t2)
      rw [hsz] at hsz5
      generalize (D.write (t1 % 8) (fillOf 1024 t2)).2 = D5 at o5 hok5 hsz5
      generalize (D.write (t1 % 8) (fillOf 1024 t2)).1 = e5
      show Exit.then _ _ Exit.normal _ _
      simp only [Exit.then]
      go_at_K
      by_cases h52 : i % 5 = 2
      · have h52i : (i : Int) % 5 = 2 := by omega
        have hsy := own_sync o5 hok5 (by omega)
        go_wp2_with fail
        refine hsy.mono ?_
        rintro e w6 ⟨rfl, o6⟩
        clear hsy
        have hok6 : Hid (D5.sync.2.ok (2 * (i + 1))) := sync_ok hok5
        have hsz6 : Hid (D5.sync.2.size = 8) := by show _ = _; rw [sync_size]; exact hsz5
        go_wp2_with fail
        go_roundw
        case rel => exact ⟨i + 1, _, by go_num, by omega, o6, hok6.out, hsz6.out⟩
        case measure => simp [intOf]; omega
      · have h52i : ((i : Int) % 5 == 2) = false := beq_eq_false_iff_ne.2 (by omega)
        have hok6 : Hid (D5.ok (2 * (i + 1))) := hok5.mono (by omega)
        have hsz6 : Hid (D5.size = 8) := hsz5
        go_wp2_with fail
        go_roundw
        case rel => exact ⟨i + 1, _, by go_num, by omega, o5, hok6.out, hsz6.out⟩
        case measure => simp [intOf]; omega
    · have key : Calls Try.prog 26 #[.pointer (some ⟨b, 0, none⟩)] wr fun e w' => ∃ (hd hc : Hd), hd.b = b ∧ e = .returned (.pointer (some ⟨hc.b, 0, none⟩)) ∧ DiskAt wr hd D ∧ (∀ k, Foot hd k → w.heap.size ≤ k) ∧ DiskAt w' hc D ∧ (∀ k, Foot hc k → wr.heap.size ≤ k) ∧ Below wr.heap.size wr w' := by
        obtain ⟨h, rfl, a, hf, hB⟩ := o
        exact (copy_any a (by have := hok.many; omega)).mono fun e w' ⟨h', q1, q2, q3, q4, q5, q6⟩ => ⟨h, h', rfl, q1, a, hf, q2, q3, q6⟩
      have hBr := o.all
      clear o
      by_cases hi1 : i < n
      · have hi1i : (i : Int) < n := by omega
        have hi2i : ¬ (i : Int) < 20 := by omega
        go_wp2_with fail
        refine key.mono ?_
        rintro e w3 ⟨hd, hc', rfl, rfl, ad, hfd, ac, hfc, hB3⟩
        clear key
        have ad3 := ad.below hB3
        go_wp2_with fail
        refine (copy_any ad3 (by have := hok.many; omega)).mono ?_
        rintro e w4 ⟨he, rfl, ae, hfe, hfo, hwv, hB4⟩
        have ad4 := ad3.below hB4
        have ac4 := ac.below hB4
        have hzd : ∀ k, Blk hd k → k < wr.heap.size := ad.lt
        have hzc := ac.lt
        have hze := ae.lt
        have hs3 := hB3.size
        have hs4 := hB4.size
        have hG : ∀ k, Blk he k → (w3.heap.size ≤ k ∨ Blk hd k) := by
          rintro k (q | q | q | q)
          · exact .inl (hfe k (.inl q))
          · exact .inl (hfe k (.inr (.inl q)))
          · exact .inr (.inr (.inr (.inl (by rw [← hfo]; exact q))))
          · exact .inr (.inr (.inr (.inr (by rw [hwv, full_block] at q; exact q))))
        have oc : OwnG (fun k => Blk hd k ∨ Blk he k) w w4 hc'.b D := by
          refine ⟨hc', rfl, ac4, fun k hk => ⟨by have := hfc k hk; have := hBr.size; omega, ?_⟩, below_new (below_new hBr hB3) hB4, ?_⟩
          · have h1 := hfc k hk
            have h2 := hzc k hk.blk
            rintro (q | q)
            · have := hzd k q; omega
            · rcases hG k q with r | r
              · omega
              · have := hzd k r; omega
          · rintro k (q | q)
            · have := hzd k q; omega
            · exact hze k q
        have hdis : ∀ k, Foot hd k → ¬ (k = he.b ∨ he.po = some k) := by
          intro k hk q
          have h1 := hzd k hk.blk
          have h2 : w3.heap.size ≤ k := by
            rcases q with q | q
            · exact hfe k (.inl q)
            · exact hfe k (.inr (.inl q))
          omega
        have hB4w : Below w.heap.size w w4 := oc.all
        have hsw : w.heap.size ≤ w3.heap.size := by have := hBr.size; omega
        have hfew : ∀ k, Foot he k → w.heap.size ≤ k := fun k hk => by have := hfe k hk; omega
        clear hG hzd hzc hze ac ac4 hfc ad ad3 hB3 hB4 hs3 hs4
        go_wp2_with fail
        go_loopw [12] (fun y wr => ∃ (j : Nat) (E : Dev), y = .int .i64 (j : Nat) ∧ j ≤ 20 ∧ OwnG (fun k => Blk hd k ∨ Blk he k) w wr hc'.b E ∧ E.ok (40 + 2 * j) ∧ Same (fun k => Blk hd k ∨ Blk he k) w4 wr) (fun y _ => 20 - (intOf y).toNat)
        case atStart => exact ⟨0, D, rfl, by omega, oc, hok.mono (by omega), Same.refl _ _⟩
        case round =>
          clear oc
          obtain ⟨j, E, rfl, hj20, oj, hokj, hsm⟩ := hrel
          by_cases hj : j < n2 ∧ j < 20
          · obtain ⟨hj1, hj2⟩ := hj
            have hj1i : (j : Int) < n2 := by omega
            have hj2i : (j : Int) < 20 := by omega
            obtain ⟨⟨t1, t2⟩, ht⟩ : ∃ t, L2[j]? = some t := ⟨_, List.getElem?_eq_getElem (by have := hx2.1; omega)⟩
            rcases hx2.2 with h0 | ⟨gb, go, rfl, _⟩
            · omega
            have hcl : ∀ W, Below w.heap.size w W → W.cell? ⟨gb, go + j * 4 + 1, none⟩ = some (.int .i64 t1) ∧ W.cell? ⟨gb, go + j * 4 + 2, none⟩ = some (.int .u8 (t2.toNat : Nat)) := fun W hW => by
              rcases (hx2.below hW).2 with h0 | ⟨gb', go', e, hq⟩
              · omega
              · injection e with e
                injection e with e1 e2
                subst e1 e2
                exact hq j _ ht
            go_wp2_with fail
            refine wp_region_plan (fun W => Below w.heap.size w W) [.take 0, .take 1, .take 2, .take 3, .take 4, .take 5, .take 6, .take 7, .take 8, .take 9, .take 10, .take 11, .one 12, .one 13] mixedP (by kernel_rfl) rfl (by kernel_rfl) (fun _ _ _ d _ h => by cases d <;> exact h) oj.all.drew ?_
            refine plan_val (some 71) rfl rfl rfl (.pointer (some ⟨hc'.b, 0, none⟩)) (fun _ => by go_simp) ?_
            go_frame
            refine plan_val (some 72) rfl rfl rfl (.slice (some ⟨gb, go, none⟩) n2 c2) (fun _ => by go_simp) ?_
            go_frame
            refine plan_val (some 73) rfl rfl rfl (.int .i64 (j : Nat)) (fun _ => by go_simp) ?_
            go_frame
            refine plan_val (some 74) rfl rfl rfl (.pointer (some ⟨gb, go + j * 4, none⟩)) (fun _ => by go_simp) ?_
            go_frame
            refine plan_val (some 75) rfl rfl rfl (.pointer (some ⟨gb, go + j * 4 + 1, none⟩)) (fun _ => by go_simp) ?_
            go_frame
            refine plan_ldI (some 76) rfl rfl rfl _ rfl rfl (v := .int .i64 t1) (fun W hW => (hcl W hW).1) ?_
            go_frame
            refine plan_val (some 77) rfl rfl rfl (.int .i64 (t1 % 8)) (fun _ => by go_simp) ?_
            go_frame
            refine plan_val (some 78) rfl rfl rfl (.slice (some ⟨gb, go, none⟩) n2 c2) (fun _ => by go_simp) ?_
            go_frame
            refine plan_val (some 79) rfl rfl rfl (.int .i64 (j : Nat)) (fun _ => by go_simp) ?_
            go_frame
            refine plan_val (some 80) rfl rfl rfl (.pointer (some ⟨gb, go + j * 4, none⟩)) (fun _ => by go_simp) ?_
            go_frame
            refine plan_val (some 81) rfl rfl rfl (.pointer (some ⟨gb, go + j * 4 + 2, none⟩)) (fun _ => by go_simp) ?_
            go_frame
            refine plan_ldU (some 82) rfl rfl rfl _ rfl rfl (v := .int .u8 (t2.toNat : Nat)) (fun W hW => (hcl W hW).2) ?_
            go_frame
            refine plan_call (some 83) rfl (f := 29) (vs := #[.int .u8 (t2.toNat : Nat)]) rfl rfl (by go_simp) ((fill_any t2 _).mono ?_)
            rintro e wf ⟨rfl, hBf⟩
            have of := oj.below (w' := wf) ((Below.refl _ _).drew.trans hBf)
            refine ⟨_, rfl, of.1.all, ?_⟩
            go_frame
            have hwr := ownG_write of.1 hokj (by omega) (t1 % 8) (by omega) (fillOf 1024 t2)
            refine plan_call (some 84) rfl (f := 28) (vs := #[.pointer (some ⟨hc'.b, 0, none⟩), .int .i64 (t1 % 8), .string (fillOf 1024 t2)]) rfl rfl (by go_simp) (hwr.mono ?_)
            rintro e w5 ⟨rfl, o5, hs5⟩
            clear hwr
            refine ⟨_, rfl, o5.all, ?_⟩
            go_frame
            have hok5 := write_ok hokj (t1 % 8) (fillOf 1024 t2)
            generalize (E.write (t1 % 8) (fillOf 1024 t2)).2 = E5 at o5 hok5
            generalize (E.write (t1 % 8) (fillOf 1024 t2)).1 = e5
            have hsm5 := (hsm.trans of.2).trans hs5
            show Exit.then _ _ Exit.normal _ _
            simp only [Exit.then]
            go_at_K
            by_cases h31 : j % 3 = 1
            · have h31i : (j : Int) % 3 = 1 := by omega
              have hsy := ownG_sync o5 hok5 (by omega)
              go_wp2_with fail
              refine hsy.mono ?_
              rintro e w6 ⟨rfl, o6, hs6⟩
              clear hsy
              have hok6 : Hid (E5.sync.2.ok (40 + 2 * (j + 1))) := sync_ok hok5
              have hsm6 : Hid _ := hsm5.trans hs6
              clear hsm5 hsm hs5 hs6
              go_wp2_with fail
              go_roundw
              case rel => exact ⟨j + 1, _, by go_num, by omega, o6, hok6.out, hsm6.out⟩
              case measure => simp [intOf]; omega
            · have h31i : ((j : Int) % 3 == 1) = false := beq_eq_false_iff_ne.2 (by omega)
              have hok6 : Hid (E5.ok (40 + 2 * (j + 1))) := hok5.mono (by omega)
              have hsm6 : Hid _ := hsm5
              clear hsm5 hsm hs5
              go_wp2_with fail
              go_roundw
              case rel => exact ⟨j + 1, _, by go_num, by omega, o5, hok6.out, hsm6.out⟩
              case measure => simp [intOf]; omega
          · have adj : DiskAt wr hd D := ad4.kept fun k hk => hsm k (.inl hk)
            have aej : DiskAt wr he D := ae.kept fun k hk => hsm k (.inr hk)
            have hBj := oj.all
            have hcd := crash_any adj hok (by omega) (ints_arg hl hfd hBj) rfl hnc3 hlm
            by_cases hj1 : j < n2
            · have hj1i : (j : Int) < n2 := by omega
              have hj2i : ¬ (j : Int) < 20 := by omega
              go_wp2_with fail
              refine hcd.mono ?_
              rintro e w5 ⟨rfl, hrow, hd', hfd', hvd', dd⟩
              clear hcd
              have ae5 := crash_other adj aej hfo hwv hdis dd.keep hrow
              have hB5 : Below w.heap.size w w5 := Keep.fresh hBj dd.keep hfd
              have hce := crash_any ae5 hok (by omega) (ints_arg hl hfew hB5) rfl hnc3 hlm
              go_wp2_with fail
              refine hce.mono ?_
              rintro e w6 ⟨rfl, _, he', hfe', hve', de⟩
              clear hce
              have hno : ∀ k, (k = hd'.b ∨ hd'.po = some k) → ¬ Foot he k := by
                intro k q f2
                have f3 : k = he.b ∨ he.po = some k := by
                  rcases f2 with f | f | f
                  · exact .inl f
                  · exact .inr f
                  · have f' : Room he.wv k := f
                    rw [hwv] at f'
                    exact absurd f' (full_room _ _)
                have h4 := aej.lt k f2.blk
                rcases dd.newer.2 k (by rcases q with q | q; exact .inl q; exact .inr (.inl q)) with f1 | f1
                · exact hdis k f1 f3
                · omega
              have hap : Apart hd' he' := by
                intro k q r
                have hkd : k < w5.heap.size := dd.at_.lt k (by rcases q with q | q; exact .inl q; exact .inr (.inl q))
                rcases de.newer.2 k (by rcases r with r | r; exact .inl r; exact .inr (.inl r)) with f2 | f2
                · exact hno k q f2
                · omega
              have ad6 : DiskAt w6 hd' (D.crash l) := dd.at_.keep de.keep fun k hk => hno k (blk_bare hvd' hfd' hk)
              have ae6 := de.at_
              have hB6 : Below w.heap.size w w6 := Keep.fresh hB5 de.keep hfew
              have hcalm : Calm (40 + 0) (D.crash l) := ⟨(crash_ok hok l).mono (by omega), hsz, rfl, rfl, rfl⟩
              have hfd6 : ∀ k, Foot hd' k → w.heap.size ≤ k := fun k hk => by
                rcases dd.newer.2 k hk with q | q
                · exact hfd k q
                · have := hBj.size; omega
              have hfe6 : ∀ k, Foot he' k → w.heap.size ≤ k := fun k hk => by
                rcases de.newer.2 k hk with q | q
                · exact hfew k q
                · have := hB5.size; omega
              have hbd : hd'.b = hd.b := dd.newer.1
              have hbe : he'.b = he.b := de.newer.1
              generalize D.crash l = E0 at ad6 ae6 hcalm
              have HBD : Hid (hd'.b = hd.b) := hbd
              have HBE : Hid (he'.b = he.b) := hbe
              clear hbd hbe dd de hno hB5 ae5 adj aej oj hsm hBj hdis hfew hfd
              go_wp2_with fail
              go_loopw [13] (fun y wr => ∃ (k : Nat) (E : Dev), y = .int .i64 (k : Nat) ∧ k ≤ 8 ∧ DiskAt wr hd' E ∧ DiskAt wr he' E ∧ Calm (40 + k) E ∧ Below w.heap.size w wr) (fun y _ => 8 - (intOf y).toNat)
              case atStart => exact ⟨0, E0, rfl, by omega, ad6, ae6, hcalm, hB6⟩
              case round =>
                clear ad6 ae6 hcalm hB6
                obtain ⟨k, E', rfl, hk8, adk, aek, hC, hBk⟩ := hrel
                by_cases hk : k < 8
                · have hki : (k : Int) < 8 := by omega
                  have hst := hC.read hk
                  have hrd := read_any adk hC.ok (by omega) (k : Int) (by omega)
                  rw [hst.1, HBD.out] at hrd
                  go_wp2_with fail
                  refine hrd.mono ?_
                  rintro e w7 ⟨rfl, d7⟩
                  clear hrd
                  have ae7 := aek.keep d7.keep fun k hk q => hap k (foot_bare hvd' q) (blk_bare hve' hfe' hk)
                  have hB7 := Keep.fresh hBk d7.keep hfd6
                  have hre := read_any ae7 hC.ok (by omega) (k : Int) (by omega)
                  rw [hst.1, HBE.out] at hre
                  go_wp2_with fail
                  refine hre.mono ?_
                  rintro e w8 ⟨rfl, d8⟩
                  clear hre
                  have ad8 := d7.at_.keep d8.keep fun k hk q => hap k (blk_bare hvd' hfd' hk) (foot_bare hve' q)
                  have hB8 := Keep.fresh hB7 d8.keep hfe6
                  have HC : Hid _ := hst.2
                  have ae8 := d8.at_
                  clear hst hC d7 d8
                  generalize ((E'.pages (k : Int)).map (·.1)).getD zeros = T
                  go_wp2_with fail
                  go_roundw
                  case rel => exact ⟨k + 1, _, by go_num, by omega, ad8, ae8, HC.out, hB8⟩
                  case measure => simp [intOf]; omega
                · have hki : ¬ (k : Int) < 8 := by omega
                  go_wp2_with fail
                  go_ret
                  exact ⟨rfl, hBk⟩
            · have hj1i : ¬ (j : Int) < n2 := by omega
              go_wp2_with fail
              refine hcd.mono ?_
              rintro e w5 ⟨rfl, hrow, hd', hfd', hvd', dd⟩
              clear hcd
              have ae5 := crash_other adj aej hfo hwv hdis dd.keep hrow
              have hB5 : Below w.heap.size w w5 := Keep.fresh hBj dd.keep hfd
              have hce := crash_any ae5 hok (by omega) (ints_arg hl hfew hB5) rfl hnc3 hlm
              go_wp2_with fail
              refine hce.mono ?_
              rintro e w6 ⟨rfl, _, he', hfe', hve', de⟩
              clear hce
              have hno : ∀ k, (k = hd'.b ∨ hd'.po = some k) → ¬ Foot he k := by
                intro k q f2
                have f3 : k = he.b ∨ he.po = some k := by
                  rcases f2 with f | f | f
                  · exact .inl f
                  · exact .inr f
                  · have f' : Room he.wv k := f
                    rw [hwv] at f'
                    exact absurd f' (full_room _ _)
                have h4 := aej.lt k f2.blk
                rcases dd.newer.2 k (by rcases q with q | q; exact .inl q; exact .inr (.inl q)) with f1 | f1
                · exact hdis k f1 f3
                · omega
              have hap : Apart hd' he' := by
                intro k q r
                have hkd : k < w5.heap.size := dd.at_.lt k (by rcases q with q | q; exact .inl q; exact .inr (.inl q))
                rcases de.newer.2 k (by rcases r with r | r; exact .inl r; exact .inr (.inl r)) with f2 | f2
                · exact hno k q f2
                · omega
              have ad6 : DiskAt w6 hd' (D.crash l) := dd.at_.keep de.keep fun k hk => hno k (blk_bare hvd' hfd' hk)
              have ae6 := de.at_
              have hB6 : Below w.heap.size w w6 := Keep.fresh hB5 de.keep hfew
              have hcalm : Calm (40 + 0) (D.crash l) := ⟨(crash_ok hok l).mono (by omega), hsz, rfl, rfl, rfl⟩
              have hfd6 : ∀ k, Foot hd' k → w.heap.size ≤ k := fun k hk => by
                rcases dd.newer.2 k hk with q | q
                · exact hfd k q
                · have := hBj.size; omega
              have hfe6 : ∀ k, Foot he' k → w.heap.size ≤ k := fun k hk => by
                rcases de.newer.2 k hk with q | q
                · exact hfew k q
                · have := hB5.size; omega
              have hbd : hd'.b = hd.b := dd.newer.1
              have hbe : he'.b = he.b := de.newer.1
              generalize D.crash l = E0 at ad6 ae6 hcalm
              have HBD : Hid (hd'.b = hd.b) := hbd
              have HBE : Hid (he'.b = he.b) := hbe
              clear hbd hbe dd de hno hB5 ae5 adj aej oj hsm hBj hdis hfew hfd
              go_wp2_with fail
              go_loopw [13] (fun y wr => ∃ (k : Nat) (E : Dev), y = .int .i64 (k : Nat) ∧ k ≤ 8 ∧ DiskAt wr hd' E ∧ DiskAt wr he' E ∧ Calm (40 + k) E ∧ Below w.heap.size w wr) (fun y _ => 8 - (intOf y).toNat)
              case atStart => exact ⟨0, E0, rfl, by omega, ad6, ae6, hcalm, hB6⟩
              case round =>
                clear ad6 ae6 hcalm hB6
                obtain ⟨k, E', rfl, hk8, adk, aek, hC, hBk⟩ := hrel
                by_cases hk : k < 8
                · have hki : (k : Int) < 8 := by omega
                  have hst := hC.read hk
                  have hrd := read_any adk hC.ok (by omega) (k : Int) (by omega)
                  rw [hst.1, HBD.out] at hrd
                  go_wp2_with fail
                  refine hrd.mono ?_
                  rintro e w7 ⟨rfl, d7⟩
                  clear hrd
                  have ae7 := aek.keep d7.keep fun k hk q => hap k (foot_bare hvd' q) (blk_bare hve' hfe' hk)
                  have hB7 := Keep.fresh hBk d7.keep hfd6
                  have hre := read_any ae7 hC.ok (by omega) (k : Int) (by omega)
                  rw [hst.1, HBE.out] at hre
                  go_wp2_with fail
                  refine hre.mono ?_
                  rintro e w8 ⟨rfl, d8⟩
                  clear hre
                  have ad8 := d7.at_.keep d8.keep fun k hk q => hap k (blk_bare hvd' hfd' hk) (foot_bare hve' q)
                  have hB8 := Keep.fresh hB7 d8.keep hfe6
                  have HC : Hid _ := hst.2
                  have ae8 := d8.at_
                  clear hst hC d7 d8
                  generalize ((E'.pages (k : Int)).map (·.1)).getD zeros = T
                  go_wp2_with fail
                  go_roundw
                  case rel => exact ⟨k + 1, _, by go_num, by omega, ad8, ae8, HC.out, hB8⟩
                  case measure => simp [intOf]; omega
                · have hki : ¬ (k : Int) < 8 := by omega
                  go_wp2_with fail
                  go_ret
                  exact ⟨rfl, hBk⟩
      · have hi1i : ¬ (i : Int) < n := by omega
        go_wp2_with fail
        refine key.mono ?_
        rintro e w3 ⟨hd, hc', rfl, rfl, ad, hfd, ac, hfc, hB3⟩
        clear key
        have ad3 := ad.below hB3
        go_wp2_with fail
        refine (copy_any ad3 (by have := hok.many; omega)).mono ?_
        rintro e w4 ⟨he, rfl, ae, hfe, hfo, hwv, hB4⟩
        have ad4 := ad3.below hB4
        have ac4 := ac.below hB4
        have hzd : ∀ k, Blk hd k → k < wr.heap.size := ad.lt
        have hzc := ac.lt
        have hze := ae.lt
        have hs3 := hB3.size
        have hs4 := hB4.size
        have hG : ∀ k, Blk he k → (w3.heap.size ≤ k ∨ Blk hd k) := by
          rintro k (q | q | q | q)
          · exact .inl (hfe k (.inl q))
          · exact .inl (hfe k (.inr (.inl q)))
          · exact .inr (.inr (.inr (.inl (by rw [← hfo]; exact q))))
          · exact .inr (.inr (.inr (.inr (by rw [hwv, full_block] at q; exact q))))
        have oc : OwnG (fun k => Blk hd k ∨ Blk he k) w w4 hc'.b D := by
          refine ⟨hc', rfl, ac4, fun k hk => ⟨by have := hfc k hk; have := hBr.size; omega, ?_⟩, below_new (below_new hBr hB3) hB4, ?_⟩
          · have h1 := hfc k hk
            have h2 := hzc k hk.blk
            rintro (q | q)
            · have := hzd k q; omega
            · rcases hG k q with r | r
              · omega
              · have := hzd k r; omega
          · rintro k (q | q)
            · have := hzd k q; omega
            · exact hze k q
        have hdis : ∀ k, Foot hd k → ¬ (k = he.b ∨ he.po = some k) := by
          intro k hk q
          have h1 := hzd k hk.blk
          have h2 : w3.heap.size ≤ k := by
            rcases q with q | q
            · exact hfe k (.inl q)
            · exact hfe k (.inr (.inl q))
          omega
        have hB4w : Below w.heap.size w w4 := oc.all
        have hsw : w.heap.size ≤ w3.heap.size := by have := hBr.size; omega
        have hfew : ∀ k, Foot he k → w.heap.size ≤ k := fun k hk => by have := hfe k hk; omega
        clear hG hzd hzc hze ac ac4 hfc ad ad3 hB3 hB4 hs3 hs4
        go_wp2_with fail
        go_loopw [12] (fun y wr => ∃ (j : Nat) (E : Dev), y = .int .i64 (j : Nat) ∧ j ≤ 20 ∧ OwnG (fun k => Blk hd k ∨ Blk he k) w wr hc'.b E ∧ E.ok (40 + 2 * j) ∧ Same (fun k => Blk hd k ∨ Blk he k) w4 wr) (fun y _ => 20 - (intOf y).toNat)
        case atStart => exact ⟨0, D, rfl, by omega, oc, hok.mono (by omega), Same.refl _ _⟩
        case round =>
          clear oc
          obtain ⟨j, E, rfl, hj20, oj, hokj, hsm⟩ := hrel
          by_cases hj : j < n2 ∧ j < 20
          · obtain ⟨hj1, hj2⟩ := hj
            have hj1i : (j : Int) < n2 := by omega
            have hj2i : (j : Int) < 20 := by omega
            obtain ⟨⟨t1, t2⟩, ht⟩ : ∃ t, L2[j]? = some t := ⟨_, List.getElem?_eq_getElem (by have := hx2.1; omega)⟩
            rcases hx2.2 with h0 | ⟨gb, go, rfl, _⟩
            · omega
            have hcl : ∀ W, Below w.heap.size w W → W.cell? ⟨gb, go + j * 4 + 1, none⟩ = some (.int .i64 t1) ∧ W.cell? ⟨gb, go + j * 4 + 2, none⟩ = some (.int .u8 (t2.toNat : Nat)) := fun W hW => by
              rcases (hx2.below hW).2 with h0 | ⟨gb', go', e, hq⟩
              · omega
              · injection e with e
                injection e with e1 e2
                subst e1 e2
                exact hq j _ ht
            go_wp2_with fail
            refine wp_region_plan (fun W => Below w.heap.size w W) [.take 0, .take 1, .take 2, .take 3, .take 4, .take 5, .take 6, .take 7, .take 8, .take 9, .take 10, .take 11, .one 12, .one 13] mixedP (by kernel_rfl) rfl (by kernel_rfl) (fun _ _ _ d _ h => by cases d <;> exact h) oj.all.drew ?_
            refine plan_val (some 71) rfl rfl rfl (.pointer (some ⟨hc'.b, 0, none⟩)) (fun _ => by go_simp) ?_
            go_frame
            refine plan_val (some 72) rfl rfl rfl (.slice (some ⟨gb, go, none⟩) n2 c2) (fun _ => by go_simp) ?_
            go_frame
            refine plan_val (some 73) rfl rfl rfl (.int .i64 (j : Nat)) (fun _ => by go_simp) ?_
            go_frame
            refine plan_val (some 74) rfl rfl rfl (.pointer (some ⟨gb, go + j * 4, none⟩)) (fun _ => by go_simp) ?_
            go_frame
            refine plan_val (some 75) rfl rfl rfl (.pointer (some ⟨gb, go + j * 4 + 1, none⟩)) (fun _ => by go_simp) ?_
            go_frame
            refine plan_ldI (some 76) rfl rfl rfl _ rfl rfl (v := .int .i64 t1) (fun W hW => (hcl W hW).1) ?_
            go_frame
            refine plan_val (some 77) rfl rfl rfl (.int .i64 (t1 % 8)) (fun _ => by go_simp) ?_
            go_frame
            refine plan_val (some 78) rfl rfl rfl (.slice (some ⟨gb, go, none⟩) n2 c2) (fun _ => by go_simp) ?_
            go_frame
            refine plan_val (some 79) rfl rfl rfl (.int .i64 (j : Nat)) (fun _ => by go_simp) ?_
            go_frame
            refine plan_val (some 80) rfl rfl rfl (.pointer (some ⟨gb, go + j * 4, none⟩)) (fun _ => by go_simp) ?_
            go_frame
            refine plan_val (some 81) rfl rfl rfl (.pointer (some ⟨gb, go + j * 4 + 2, none⟩)) (fun _ => by go_simp) ?_
            go_frame
            refine plan_ldU (some 82) rfl rfl rfl _ rfl rfl (v := .int .u8 (t2.toNat : Nat)) (fun W hW => (hcl W hW).2) ?_
            go_frame
            refine plan_call (some 83) rfl (f := 29) (vs := #[.int .u8 (t2.toNat : Nat)]) rfl rfl (by go_simp) ((fill_any t2 _).mono ?_)
            rintro e wf ⟨rfl, hBf⟩
            have of := oj.below (w' := wf) ((Below.refl _ _).drew.trans hBf)
            refine ⟨_, rfl, of.1.all, ?_⟩
            go_frame
            have hwr := ownG_write of.1 hokj (by omega) (t1 % 8) (by omega) (fillOf 1024 t2)
            refine plan_call (some 84) rfl (f := 28) (vs := #[.pointer (some ⟨hc'.b, 0, none⟩), .int .i64 (t1 % 8), .string (fillOf 1024 t2)]) rfl rfl (by go_simp) (hwr.mono ?_)
            rintro e w5 ⟨rfl, o5, hs5⟩
            clear hwr
            refine ⟨_, rfl, o5.all, ?_⟩
            go_frame
            have hok5 := write_ok hokj (t1 % 8) (fillOf 1024 t2)
            generalize (E.write (t1 % 8) (fillOf 1024 t2)).2 = E5 at o5 hok5
            generalize (E.write (t1 % 8) (fillOf 1024 t2)).1 = e5
            have hsm5 := (hsm.trans of.2).trans hs5
            show Exit.then _ _ Exit.normal _ _
            simp only [Exit.then]
            go_at_K
            by_cases h31 : j % 3 = 1
            · have h31i : (j : Int) % 3 = 1 := by omega
              have hsy := ownG_sync o5 hok5 (by omega)
              go_wp2_with fail
              refine hsy.mono ?_
              rintro e w6 ⟨rfl, o6, hs6⟩
              clear hsy
              have hok6 : Hid (E5.sync.2.ok (40 + 2 * (j + 1))) := sync_ok hok5
              have hsm6 : Hid _ := hsm5.trans hs6
              clear hsm5 hsm hs5 hs6
              go_wp2_with fail
              go_roundw
              case rel => exact ⟨j + 1, _, by go_num, by omega, o6, hok6.out, hsm6.out⟩
              case measure => simp [intOf]; omega
            · have h31i : ((j : Int) % 3 == 1) = false := beq_eq_false_iff_ne.2 (by omega)
              have hok6 : Hid (E5.ok (40 + 2 * (j + 1))) := hok5.mono (by omega)
              have hsm6 : Hid _ := hsm5
              clear hsm5 hsm hs5
              go_wp2_with fail
              go_roundw
              case rel => exact ⟨j + 1, _, by go_num, by omega, o5, hok6.out, hsm6.out⟩
              case measure => simp [intOf]; omega
          · have adj : DiskAt wr hd D := ad4.kept fun k hk => hsm k (.inl hk)
            have aej : DiskAt wr he D := ae.kept fun k hk => hsm k (.inr hk)
            have hBj := oj.all
            have hcd := crash_any adj hok (by omega) (ints_arg hl hfd hBj) rfl hnc3 hlm
            by_cases hj1 : j < n2
            · have hj1i : (j : Int) < n2 := by omega
              have hj2i : ¬ (j : Int) < 20 := by omega
              go_wp2_with fail
              refine hcd.mono ?_
              rintro e w5 ⟨rfl, hrow, hd', hfd', hvd', dd⟩
              clear hcd
              have ae5 := crash_other adj aej hfo hwv hdis dd.keep hrow
              have hB5 : Below w.heap.size w w5 := Keep.fresh hBj dd.keep hfd
              have hce := crash_any ae5 hok (by omega) (ints_arg hl hfew hB5) rfl hnc3 hlm
              go_wp2_with fail
              refine hce.mono ?_
              rintro e w6 ⟨rfl, _, he', hfe', hve', de⟩
              clear hce
              have hno : ∀ k, (k = hd'.b ∨ hd'.po = some k) → ¬ Foot he k := by
                intro k q f2
                have f3 : k = he.b ∨ he.po = some k := by
                  rcases f2 with f | f | f
                  · exact .inl f
                  · exact .inr f
                  · have f' : Room he.wv k := f
                    rw [hwv] at f'
                    exact absurd f' (full_room _ _)
                have h4 := aej.lt k f2.blk
                rcases dd.newer.2 k (by rcases q with q | q; exact .inl q; exact .inr (.inl q)) with f1 | f1
                · exact hdis k f1 f3
                · omega
              have hap : Apart hd' he' := by
                intro k q r
                have hkd : k < w5.heap.size := dd.at_.lt k (by rcases q with q | q; exact .inl q; exact .inr (.inl q))
                rcases de.newer.2 k (by rcases r with r | r; exact .inl r; exact .inr (.inl r)) with f2 | f2
                · exact hno k q f2
                · omega
              have ad6 : DiskAt w6 hd' (D.crash l) := dd.at_.keep de.keep fun k hk => hno k (blk_bare hvd' hfd' hk)
              have ae6 := de.at_
              have hB6 : Below w.heap.size w w6 := Keep.fresh hB5 de.keep hfew
              have hcalm : Calm (40 + 0) (D.crash l) := ⟨(crash_ok hok l).mono (by omega), hsz, rfl, rfl, rfl⟩
              have hfd6 : ∀ k, Foot hd' k → w.heap.size ≤ k := fun k hk => by
                rcases dd.newer.2 k hk with q | q
                · exact hfd k q
                · have := hBj.size; omega
              have hfe6 : ∀ k, Foot he' k → w.heap.size ≤ k := fun k hk => by
                rcases de.newer.2 k hk with q | q
                · exact hfew k q
                · have := hB5.size; omega
              have hbd : hd'.b = hd.b := dd.newer.1
              have hbe : he'.b = he.b := de.newer.1
              generalize D.crash l = E0 at ad6 ae6 hcalm
              have HBD : Hid (hd'.b = hd.b) := hbd
              have HBE : Hid (he'.b = he.b) := hbe
              clear hbd hbe dd de hno hB5 ae5 adj aej oj hsm hBj hdis hfew hfd
              go_wp2_with fail
              go_loopw [13] (fun y wr => ∃ (k : Nat) (E : Dev), y = .int .i64 (k : Nat) ∧ k ≤ 8 ∧ DiskAt wr hd' E ∧ DiskAt wr he' E ∧ Calm (40 + k) E ∧ Below w.heap.size w wr) (fun y _ => 8 - (intOf y).toNat)
              case atStart => exact ⟨0, E0, rfl, by omega, ad6, ae6, hcalm, hB6⟩
              case round =>
                clear ad6 ae6 hcalm hB6
                obtain ⟨k, E', rfl, hk8, adk, aek, hC, hBk⟩ := hrel
                by_cases hk : k < 8
                · have hki : (k : Int) < 8 := by omega
                  have hst := hC.read hk
                  have hrd := read_any adk hC.ok (by omega) (k : Int) (by omega)
                  rw [hst.1, HBD.out] at hrd
                  go_wp2_with fail
                  refine hrd.mono ?_
                  rintro e w7 ⟨rfl, d7⟩
                  clear hrd
                  have ae7 := aek.keep d7.keep fun k hk q => hap k (foot_bare hvd' q) (blk_bare hve' hfe' hk)
                  have hB7 := Keep.fresh hBk d7.keep hfd6
                  have hre := read_any ae7 hC.ok (by omega) (k : Int) (by omega)
                  rw [hst.1, HBE.out] at hre
                  go_wp2_with fail
                  refine hre.mono ?_
                  rintro e w8 ⟨rfl, d8⟩
                  clear hre
                  have ad8 := d7.at_.keep d8.keep fun k hk q => hap k (blk_bare hvd' hfd' hk) (foot_bare hve' q)
                  have hB8 := Keep.fresh hB7 d8.keep hfe6
                  have HC : Hid _ := hst.2
                  have ae8 := d8.at_
                  clear hst hC d7 d8
                  generalize ((E'.pages (k : Int)).map (·.1)).getD zeros = T
                  go_wp2_with fail
                  go_roundw
                  case rel => exact ⟨k + 1, _, by go_num, by omega, ad8, ae8, HC.out, hB8⟩
                  case measure => simp [intOf]; omega
                · have hki : ¬ (k : Int) < 8 := by omega
                  go_wp2_with fail
                  go_ret
                  exact ⟨rfl, hBk⟩
            · have hj1i : ¬ (j : Int) < n2 := by omega
              go_wp2_with fail
              refine hcd.mono ?_
              rintro e w5 ⟨rfl, hrow, hd', hfd', hvd', dd⟩
              clear hcd
              have ae5 := crash_other adj aej hfo hwv hdis dd.keep hrow
              have hB5 : Below w.heap.size w w5 := Keep.fresh hBj dd.keep hfd
              have hce := crash_any ae5 hok (by omega) (ints_arg hl hfew hB5) rfl hnc3 hlm
              go_wp2_with fail
              refine hce.mono ?_
              rintro e w6 ⟨rfl, _, he', hfe', hve', de⟩
              clear hce
              have hno : ∀ k, (k = hd'.b ∨ hd'.po = some k) → ¬ Foot he k := by
                intro k q f2
                have f3 : k = he.b ∨ he.po = some k := by
                  rcases f2 with f | f | f
                  · exact .inl f
                  · exact .inr f
                  · have f' : Room he.wv k := f
                    rw [hwv] at f'
                    exact absurd f' (full_room _ _)
                have h4 := aej.lt k f2.blk
                rcases dd.newer.2 k (by rcases q with q | q; exact .inl q; exact .inr (.inl q)) with f1 | f1
                · exact hdis k f1 f3
                · omega
              have hap : Apart hd' he' := by
                intro k q r
                have hkd : k < w5.heap.size := dd.at_.lt k (by rcases q with q | q; exact .inl q; exact .inr (.inl q))
                rcases de.newer.2 k (by rcases r with r | r; exact .inl r; exact .inr (.inl r)) with f2 | f2
                · exact hno k q f2
                · omega
              have ad6 : DiskAt w6 hd' (D.crash l) := dd.at_.keep de.keep fun k hk => hno k (blk_bare hvd' hfd' hk)
              have ae6 := de.at_
              have hB6 : Below w.heap.size w w6 := Keep.fresh hB5 de.keep hfew
              have hcalm : Calm (40 + 0) (D.crash l) := ⟨(crash_ok hok l).mono (by omega), hsz, rfl, rfl, rfl⟩
              have hfd6 : ∀ k, Foot hd' k → w.heap.size ≤ k := fun k hk => by
                rcases dd.newer.2 k hk with q | q
                · exact hfd k q
                · have := hBj.size; omega
              have hfe6 : ∀ k, Foot he' k → w.heap.size ≤ k := fun k hk => by
                rcases de.newer.2 k hk with q | q
                · exact hfew k q
                · have := hB5.size; omega
              have hbd : hd'.b = hd.b := dd.newer.1
              have hbe : he'.b = he.b := de.newer.1
              generalize D.crash l = E0 at ad6 ae6 hcalm
              have HBD : Hid (hd'.b = hd.b) := hbd
              have HBE : Hid (he'.b = he.b) := hbe
              clear hbd hbe dd de hno hB5 ae5 adj aej oj hsm hBj hdis hfew hfd
              go_wp2_with fail
              go_loopw [13] (fun y wr => ∃ (k : Nat) (E : Dev), y = .int .i64 (k : Nat) ∧ k ≤ 8 ∧ DiskAt wr hd' E ∧ DiskAt wr he' E ∧ Calm (40 + k) E ∧ Below w.heap.size w wr) (fun y _ => 8 - (intOf y).toNat)
              case atStart => exact ⟨0, E0, rfl, by omega, ad6, ae6, hcalm, hB6⟩
              case round =>
                clear ad6 ae6 hcalm hB6
                obtain ⟨k, E', rfl, hk8, adk, aek, hC, hBk⟩ := hrel
                by_cases hk : k < 8
                · have hki : (k : Int) < 8 := by omega
                  have hst := hC.read hk
                  have hrd := read_any adk hC.ok (by omega) (k : Int) (by omega)
                  rw [hst.1, HBD.out] at hrd
                  go_wp2_with fail
                  refine hrd.mono ?_
                  rintro e w7 ⟨rfl, d7⟩
                  clear hrd
                  have ae7 := aek.keep d7.keep fun k hk q => hap k (foot_bare hvd' q) (blk_bare hve' hfe' hk)
                  have hB7 := Keep.fresh hBk d7.keep hfd6
                  have hre := read_any ae7 hC.ok (by omega) (k : Int) (by omega)
                  rw [hst.1, HBE.out] at hre
                  go_wp2_with fail
                  refine hre.mono ?_
                  rintro e w8 ⟨rfl, d8⟩
                  clear hre
                  have ad8 := d7.at_.keep d8.keep fun k hk q => hap k (blk_bare hvd' hfd' hk) (foot_bare hve' q)
                  have hB8 := Keep.fresh hB7 d8.keep hfe6
                  have HC : Hid _ := hst.2
                  have ae8 := d8.at_
                  clear hst hC d7 d8
                  generalize ((E'.pages (k : Int)).map (·.1)).getD zeros = T
                  go_wp2_with fail
                  go_roundw
                  case rel => exact ⟨k + 1, _, by go_num, by omega, ad8, ae8, HC.out, hB8⟩
                  case measure => simp [intOf]; omega
                · have hki : ¬ (k : Int) < 8 := by omega
                  go_wp2_with fail
                  go_ret
                  exact ⟨rfl, hBk⟩
end Go.Proofs.Ytonmjkalkkfhhaa
