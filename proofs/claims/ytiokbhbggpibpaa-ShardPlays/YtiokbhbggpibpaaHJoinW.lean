/-
  What shard's Join does of chunks that are a set's, and of others.
-/
import Derived.Test.YtiokbhbggpibpaaHGE
import Derived.Test.YtiokbhbggpibpaaHAppW
import Derived.Test.YtiokbhbggpibpaaBSeqM
namespace Go.Proofs.Ytiokbhbggpibpaa
open Go Go.RowKit Go.Maps
attribute [local go_sem] Oper.semAt_some

theorem MapV.obj {w : World} {mo : Option Nat} {M : Nat → Bool} (h : MapV w mo M) : ∀ m, mo = some m → ∃ o : Obj, w.heap[m]? = some o ∧ Mk.mark o = false := by
  rintro m rfl
  obtain ⟨D, ⟨es, clock, hb, _⟩, _⟩ := (show MapAt w m M from h)
  exact ⟨_, hb, rfl⟩
theorem MapV.ne {w : World} {mo : Option Nat} {M : Nat → Bool} (h : MapV w mo M) {b : Nat} {t : TypeId} {cs : Array Value} (hh : Holds w b t cs) : some b ≠ mo := by
  rintro rfl
  obtain ⟨D, ⟨es, clock, hb, _⟩, _⟩ := (show MapAt w b M from h)
  unfold Holds at hh
  rw [hh] at hb
  cases hb
theorem SetAt.kept {A B : World} {row : Option Nat} {Bd : Nat} (hg : A.grownBy B row) (hr : ∀ r, row = some r → Bd ≤ r ∧ ∃ o : Obj, A.heap[r]? = some o ∧ Mk.mark o = true) {b : Nat} {mo : Option Nat} {M : Nat → Bool} (h : SetAt A b mo M) : SetAt B b mo M :=
  ⟨Mk.holds_kept hg hr h.ptr, h.map.block fun m hm => hg.block m (h.map.lt m hm) fun e => by
    obtain ⟨o, ho, hf⟩ := h.map.obj m hm
    obtain ⟨_, o', ho', ht⟩ := hr m e.symm
    rw [ho] at ho'; cases ho'; rw [hf] at ht; cases ht⟩
theorem SetAt.shut {B : Nat} {w w' : World} (hs : Shut B w w') {b : Nat} {mo : Option Nat} {M : Nat → Bool} (h : SetAt w b mo M) : SetAt w' b mo M :=
  ⟨hs.holds h.ptr, h.map.block fun m hm => by
    obtain ⟨o, ho, hf⟩ := h.map.obj m hm
    rw [ho]
    exact hs.cells m o ho (fun ds e => by subst e; cases hf)⟩
/-- The members of the first parts. -/
def flatK (ps : List (List Nat)) (i : Nat) : List Nat := (ps.take i).flatten
theorem flatK_succ {ps : List (List Nat)} {i : Nat} {p : List Nat} (h : ps[i]? = some p) : flatK ps (i + 1) = flatK ps i ++ p := by
  unfold flatK
  rw [List.take_add_one, h, List.flatten_append]
  simp

set_option maxRecDepth 8000 in
set_option maxHeartbeats 8000000 in
theorem hjoin_ok {w : World} {v : Value} {ps : List (List Nat)} (hv : ChunksAt w v (chk ps)) (hg : Good ps) (hl : ps.length ≤ 1000000) :
    Calls Try.prog 16 #[v] w fun e w' => ∃ b mo, e = .returned (.tuple #[.pointer (some ⟨b, 0, none⟩), .int .i64 0]) ∧ SetAt w' b mo (ofN ps.flatten) ∧ w.heap.size ≤ b ∧ (∀ m, mo = some m → w.heap.size ≤ m) ∧ Below w.heap.size w w' := by
  have hrd := hread_ok hv hg hl
  obtain ⟨n, hn⟩ : ∃ n, ps.length = n := ⟨_, rfl⟩
  have HN : Hid (ps.length = n) := hn
  rw [hn] at hrd hl
  clear hn hv
  have hni : (n : Int) ≤ 1000000 := by omega
  refine calls_of_wp_marks Try.func16 rfl ?_
  simp only [Try.ntmps16, List.size_toArray, List.length_cons, List.length_nil, Nat.reduceAdd, Nat.reduceSub, Array.replicate_succ, Array.replicate_zero, List.push_toArray, List.append_toArray, List.nil_append, List.cons_append]
  go_wp2_with (first
    | (go_at_call 37; refine hrd.mono ?_; rintro e w1 ⟨q, Bs, rfl, hQ, hS, hB1⟩; have hnw : ∀ W, _ := fun W => new_any (w := W) (v := .slice none 0 0) (l := []) (.inl ⟨rfl, none, 0, rfl⟩) (by simp) (by simp))
    | (go_at_call 13; refine (hnw _).mono ?_; rintro e w2 ⟨b, rfl, mo0, hs0, hb0, hm0, hB2⟩; obtain ⟨W3, hW3⟩ : ∃ W3, w2.alloc (.cells #[.pointer (some ⟨b, 0, none⟩)] 29) = W3 := ⟨_, rfl⟩; obtain ⟨xb, hxb⟩ : ∃ xb, w2.heap.size = xb := ⟨_, rfl⟩))
  have hX : Holds W3 xb 29 #[.pointer (some ⟨b, 0, none⟩)] := by rw [← hW3, ← hxb]; exact Holds.new _ _ _
  have hB3 : Below w2.heap.size w2 W3 := by rw [← hW3]; exact below_new1 _ _
  have h12 := hB2.size
  have hs3 : SetAt W3 b mo0 (ofN (flatK ps 0)) := by
    have := hs0.below hB3
    rw [ofInts_nil] at this
    unfold flatK
    rw [List.take_zero, List.flatten_nil, ofN_nil]
    exact this
  have hB13 : Below w1.heap.size w1 W3 := below_new hB2 hB3
  have hw1 := hB1.size
  have hbx0 : b < xb := by rw [← hxb]; exact hs0.ptr.lt
  clear hs0 hW3 hnw hrd
  refine wp_loop (fun a wr => ∃ (i : Nat) (mo : Option Nat) (u8 u22 u23 u24 u25 u26 u31 : Value) (ds : List Deferred),
      a = { tmps := #[v, undef, .pointer none, .int .i64 0, .slice (some ⟨q, 0, none⟩) n n, .int .i64 0, .pointer (some ⟨xb, 0, none⟩), undef, u8, undef, .tuple #[.slice (some ⟨q, 0, none⟩) n n, .int .i64 0], v, .tuple #[.slice (some ⟨q, 0, none⟩) n n, .int .i64 0], .slice (some ⟨q, 0, none⟩) n n, .int .i64 0, .int .i64 0, .bool false, undef, .pointer (some ⟨b, 0, none⟩), .slice (some ⟨q, 0, none⟩) n n, .int .i64 (n : Nat), .int .i64 (i : Nat), u22, u23, u24, u25, u26, undef, undef, undef, undef, u31, undef], defers := ds } ∧
      i ≤ n ∧ Marks w1.heap.size ds wr ∧ SetAt wr b mo (ofN (flatK ps i)) ∧ (∀ m, mo = some m → w1.heap.size ≤ m) ∧ Holds wr xb 29 #[.pointer (some ⟨b, 0, none⟩)] ∧ Below w1.heap.size w1 wr) (fun a _ => n - (intOf (a.tmps.getD 21 undef)).toNat) ?_ ?_
  · exact ⟨0, mo0, undef, undef, undef, undef, undef, undef, undef, [], rfl, Nat.zero_le _, trivial, hs3, hm0, hX, hB13⟩
  · rintro a wr ⟨i, mo, u8, u22, u23, u24, u25, u26, u31, ds, rfl, hi, hmk, hs, hm, hx, hBw⟩
    clear hs3 hX hB3 hB13 hm0
    have hdl := marks_lt hmk
    by_cases hlt : i < n
    · have hii : (i : Int) < n := by omega
      obtain ⟨p, hp⟩ : ∃ p, ps[i]? = some p := ⟨_, List.getElem?_eq_getElem (by rw [HN.out]; exact hlt)⟩
      obtain ⟨hpn, _, _⟩ := hg.at hp
      obtain ⟨x, hxB⟩ : ∃ x, Bs[i]? = some x := ⟨_, List.getElem?_eq_getElem (by rw [hS.len, HN.out]; exact hlt)⟩
      have hsx := (hS.sets i x p hxB hp).below hBw
      have hcell : wr.cell? ⟨q, i, none⟩ = some (.pointer (some ⟨x.1, 0, none⟩)) := by
        rw [(below_holds hBw hQ).cell i]
        simp [ptrs, hxB]
      have HF : Hid (flatK ps (i + 1) = flatK ps i ++ p) := flatK_succ hp
      have hea := each_any hsx.view 0 (by decide)
      obtain ⟨xp, hxp⟩ : ∃ xp, x.1 = xp := ⟨_, rfl⟩
      rw [hxp] at hcell hea
      clear hxp hp
      have hbw := hs.ptr.lt
      have hxw := hx.lt
      go_wp2_with (first
        | (go_at_call 38; refine hea.mono ?_; rintro e w3 ⟨bl, bf, rfl, vp, hl3, hF3, hP3, hB4, hbl, hbf, hob⟩))
      have hsq := Mk.each_seqM (f := 0) hl3 hF3 hP3 (by decide)
      rw [hpn.mem] at hsq
      have hw3 := hB4.size
      have hw1r := hBw.size
      have hbfl := hF3.lt
      have hSl : ∀ k, (k = bf ∨ vp.ownBlock = some k) → wr.heap.size ≤ k ∧ k < w3.heap.size := fun k hk => by
        rcases hk with rfl | hk
        · exact ⟨hbf, hbfl⟩
        · refine ⟨hob k hk, ?_⟩
          rcases hP3 with ⟨rfl, _⟩ | ⟨g, cap, rfl, hg, _⟩
          · cases hk
          · simp [Value.ownBlock] at hk; omega
      have hmw : ∀ m, mo = some m → m < wr.heap.size := hs.map.lt
      refine Mk.wp_rangeSeqO rfl (enters_of Try.func61 (by kernel_rfl) rfl) hsq (Below.refl _ _) (fun k hk => (hSl k hk).2)
        (fun pre O W => (∃ mo', SetAt W b mo' (ofN (flatK ps i ++ pre)) ∧ (∀ m, mo' = some m → w1.heap.size ≤ m) ∧ O = (fun k => w3.heap.size ≤ k ∧ mo' = some k) ∧ ∀ k, (k = bf ∨ vp.ownBlock = some k) → mo' ≠ some k) ∧ Holds W xb 29 #[.pointer (some ⟨b, 0, none⟩)] ∧ Below w1.heap.size w1 W ∧ Marks w1.heap.size ds W ∧ w3.heap.size ≤ W.heap.size)
        (fun _ _ _ => False)
        (fun O s A B row hs hg hr => by
          obtain ⟨⟨mo', h1, h2, h3, h4⟩, h5, h6, h7, h8⟩ := hs
          exact ⟨⟨mo', SetAt.kept hg hr h1, h2, h3, h4⟩, Mk.holds_kept hg hr h5, Mk.below_kept hg hr (by omega) (Nat.le_refl _) h6, Mk.marks_kept hg hr (fun d hd D hD => by have := hdl d hd D hD; omega) h7, Nat.le_trans h8 hg.size⟩)
        (fun c s A B row hs hg hr => hs)
        ⟨⟨mo, by rw [List.append_nil]; exact hs.below hB4, hm, by funext k; exact propext ⟨fun h => h.elim, fun ⟨h1, h2⟩ => by have := hmw k h2; omega⟩, fun k hk e => by have := hmw k e; have := (hSl k hk).1; omega⟩, below_holds hB4 hx, hBw.trans (hB4.mono hw1r), marks_below hB4 hmk, Nat.le_refl _⟩
        (fun pre O W hs k hk => by
          obtain ⟨⟨mo', h1, h2, rfl, h4⟩, _⟩ := hs
          exact h1.map.obj k hk.2)
        (fun y => { tmps := #[v, undef, .pointer none, .int .i64 0, .slice (some ⟨q, 0, none⟩) n n, .int .i64 0, .pointer (some ⟨xb, 0, none⟩), undef, .pointer (some ⟨xp, 0, none⟩), .int .i64 (y : Nat), .tuple #[.slice (some ⟨q, 0, none⟩) n n, .int .i64 0], v, .tuple #[.slice (some ⟨q, 0, none⟩) n n, .int .i64 0], .slice (some ⟨q, 0, none⟩) n n, .int .i64 0, .int .i64 0, .bool false, undef, .pointer (some ⟨b, 0, none⟩), .slice (some ⟨q, 0, none⟩) n n, .int .i64 (n : Nat), .int .i64 (i : Nat), .bool true, .pointer (some ⟨q, i, none⟩), .pointer (some ⟨xp, 0, none⟩), .pointer (some ⟨xp, 0, none⟩), .func (.func 61) #[] #[.pointer (some ⟨bl, 0, none⟩), .pointer (some ⟨bf, 0, none⟩)], .int .i64 (y : Nat), undef, undef, undef, u31, undef], defers := [] }) ?assign ?body ?done ?stop
      case assign =>
        intro l y W K hK
        gi_wp2
        exact hK
      case body =>
        rintro l pre y rest O W hL hsz ⟨⟨mo', hs', hm', rfl, hne⟩, hx', hBW, hmk', hsz'⟩
        have hyb : y < 2147483648 := hpn.bound y (by rw [hL]; simp)
        have hadd := add_any hs' (y : Int) (by omega)
        rw [addM_ofN _ hyb, List.append_assoc] at hadd
        have hc : W.cell? ⟨xb, 0, none⟩ = some (.pointer (some ⟨b, 0, none⟩)) := hx'.cell 0
        have HS : Hid (SetAt W b mo' (ofN (flatK ps i ++ pre))) := hs'
        have HX : Hid (Holds W xb 29 #[.pointer (some ⟨b, 0, none⟩)]) := hx'
        clear hL hs' hx' hs hx hsq hl3 hF3 hP3 hcell hea
        gi_wp2_with (first
          | (refine ⟨trivial, rfl, ?_⟩; gi_at_call 27; refine (CallsIn.inRound l (callsIn_wide.2 hadd)).mono ?_; rintro e w5 ⟨rfl, mo5, hs5, hN5, hO5⟩))
        have hz5 := hO5.size
        have hko : Mk.KeepO w1.heap.size (fun k => k = b ∨ mo' = some k) W w5 := ⟨hz5, fun k _ h2 h3 => hO5.block k h2 (fun e => h3 (.inl e)) (fun e => h3 (.inr e.symm))⟩
        have hkc : ∀ k, (k = b ∨ mo' = some k) → ∃ o : Obj, W.heap[k]? = some o ∧ Mk.mark o = false := fun k hk => by
          rcases hk with rfl | hk
          · exact ⟨_, HS.out.ptr, rfl⟩
          · exact HS.out.map.obj k hk
        have hxbb : xb ≠ b := by omega
        have hxm : some xb ≠ mo' := HS.out.map.ne HX.out
        refine ⟨hko.from hkc (by omega), ⟨hz5, fun k hk => hO5.block k (by have := (hSl k hk).2; omega) (by have := (hSl k hk).1; omega) (fun e => hne k hk e.symm)⟩, ⟨hz5, fun k h1 h2 h3 => hO5.block k h2 (by omega) (fun e => h3 ⟨by omega, e.symm⟩)⟩, fun k => w3.heap.size ≤ k ∧ mo5 = some k, fun k hk => ?_, ⟨mo5, hs5, fun m e => ?_, rfl, fun k hk e => ?_⟩, ?_, OnlyS.fresh hBW hO5 hb0 hm', hko.marks hkc hmk', by omega⟩
        · rcases hN5 with rfl | ⟨m, rfl, hmm⟩
          · exact .inl hk
          · have := hk.2
            injection this with this
            exact .inr (by omega)
        · rcases hN5 with rfl | ⟨m', rfl, hmm⟩
          · exact hm' m e
          · injection e with e
            omega
        · rcases hN5 with rfl | ⟨m', rfl, hmm⟩
          · exact hne k hk e
          · injection e with e
            have := (hSl k hk).2
            omega
        · have h := HX.out
          unfold Holds at h ⊢
          rw [hO5.block xb HX.out.lt hxbb hxm]
          exact h
      case done =>
        rintro D O W hD ⟨⟨mo', hs', hm', rfl, hne⟩, hx', hBW, hmk', hsz'⟩ hK
        clear hsq hl3 hF3 hP3 hcell hea hB4 hs hx
        go_wp2_with fail
        refine ⟨⟨i + 1, mo', _, _, _, _, _, _, _, _, rfl, by omega, Marks.cons hmk' (by omega) hK (fun d hd D' hD' => by have := hdl d hd D' hD'; omega), ?_, hm', hx', hBW⟩, ?_⟩
        · rw [HF.out]; exact hs'
        · simp [intOf]; omega
      case stop =>
        rintro D c pre y rest W _ _ h _
        exact h.elim
    · have hii : ¬ (i : Int) < n := by omega
      obtain rfl : i = n := by omega
      have hc : wr.cell? ⟨xb, 0, none⟩ = some (.pointer (some ⟨b, 0, none⟩)) := hx.cell 0
      go_wp2_with fail
      refine leaves_marks hmk fun w' hw' => ⟨_, results_tmp2 rfl _ _ _, b, rfl, mo, ?_, by omega, fun m e => by have := hm m e; omega, hB1.trans ((hBw.trans hw'.below).mono hw1)⟩
      have h := hs.shut hw'
      unfold flatK at h
      rw [← HN.out, List.take_length] at h
      exact h

set_option maxRecDepth 8000 in
theorem hjoin_bad {w : World} {v : Value} {L : List Ck} (hv : ChunksAt w v L) (hno : ∀ ps, Good ps → L ≠ chk ps) (hsz : ∀ c ∈ L, c.2.size ≤ 2147483648) (hl : L.length ≤ 1000000) :
    Calls Try.prog 16 #[v] w fun e w' => e = .returned (.tuple #[.pointer none, .int .i64 10]) ∧ Below w.heap.size w w' := by
  have hrd := hread_bad hv hno hsz hl
  clear hv hno hsz
  go_enter Try.func16, Try.ntmps16
  go_wp2_with (first
    | (go_at_call 37; refine hrd.mono ?_; rintro e w1 ⟨rfl, hB1⟩))
  go_ret2
  exact ⟨rfl, hB1⟩
end Go.Proofs.Ytiokbhbggpibpaa
