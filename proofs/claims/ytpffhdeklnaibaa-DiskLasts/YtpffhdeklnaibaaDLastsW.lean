/-
  DiskLasts' walk.
-/
import Derived.Test.YtpffhdeklnaibaaDLastsM
import Derived.Test.YtpffhdeklnaibaaDTakeE
namespace Go.Proofs.Ytpffhdeklnaibaa
open Go Go.RowKit Go.Maps

theorem infoU8L : ∃ i, Try.prog.info? 5 = some i ∧ i.zero = some (.int .u8 0) ∧ i.size = 1 ∧ i.bytes = 1 := by
  have h : (Try.prog.info? 5).map (fun i => (i.zero, i.size, i.bytes)) = some (some (.int .u8 0), 1, 1) := by kernel_rfl
  cases hq : Try.prog.info? 5 with
  | none => rw [hq] at h; cases h
  | some i =>
    rw [hq] at h
    simp only [Option.map_some, Option.some.injEq, Prod.mk.injEq] at h
    exact ⟨i, rfl, h.1, h.2.1, h.2.2⟩
theorem underBytesL : Try.prog.underlying 48 = some (.slice 5) := by kernel_rfl
theorem one_newsL (w : World) (v : Value) (j : Nat) (u : Value) (h : [v][j]? = some u) : (w.alloc (.cells #[v] 5)).cell? ((⟨w.heap.size, 0, none⟩ : Addr).add j) = some u := by
  have : j = 0 := by
    rcases j with _ | j
    · rfl
    · simp at h
  subst this
  rw [Addr.add_mid, (Holds.new w 5 #[v]).cell]
  exact h
theorem exec_append {P : Program} {op : Oper} {ρ : Operand → Value} {w w' : World} {t : TypeId} {s x : Operand} {v y v' : Value} (ho : op.op = .call { callee := .builtin .append, args := #[s, x], argTypes := #[t, t] }) (hs : ρ s = v) (hx : ρ x = y)
    (hr : (Builtin.append_ #[t, t] op.type #[v, y]).run P w = .ok v' w') : (execOp ρ op).run P w = .ok (.value v') w' := by
  unfold execOp
  simp only [ho, resolve, invoke, builtin, Sem.run_bind, Sem.run_pure, Result.andThen_ok, List.map_toArray, List.map_cons, List.map_nil, hs, hx, hr]
theorem owned_one {w : World} {base n : Nat} {v : Value} {xs : List Value} (h : w.ownsRow base 5 1 v (n + 1) xs) : ∃ z g cap, v = .slice (some ⟨g, 0, none⟩) z cap := by
  rcases h.2 with ⟨_, h0⟩ | ⟨g, cap, cur, e, _⟩
  · omega
  · exact ⟨_, g, cap, e⟩
/-- The cells of a row. -/
theorem Las.cellsAt {w0 w : World} {b g : Nat} {D : Dev} {V : Array Value} {R : Nat → Nat} {mm : Nat → List UInt8} (o : Las w0 w b g D V R mm 32) {x : Nat} (hx : x < 32) :
    ∃ cap, V[x]? = some (.slice (some ⟨R x, 0, none⟩) (mm x).length cap) ∧ w.cell? ⟨g, x, none⟩ = some (.slice (some ⟨R x, 0, none⟩) (mm x).length cap) ∧ ∀ j c, (mm x)[j]? = some c → w.cell? ⟨R x, j, none⟩ = some (u8v c) := by
  obtain ⟨v, hv, hvb, hvo⟩ := o.may.row x hx
  rcases hvo.2 with ⟨rfl, _⟩ | ⟨r, cap, cur, rfl, _⟩
  · cases hvb
  · have : r = R x := by simpa [Value.ownBlock] using hvb
    subst this
    refine ⟨cap, hv, (o.may.cells.cell _).trans hv, fun j c hc => ?_⟩
    have hj : j < (mm x).length := (List.getElem?_eq_some_iff.1 hc).1
    have := hvo.cellAt j (by simpa using hj)
    rw [this, List.getElem?_map, hc]
    rfl
theorem oldAt_get (S : ByteArray) (j : Nat) (h : j < S.size) : S[j] = oldAt S j := by
  unfold oldAt
  rw [List.getD_eq_getElem?_getD, List.getElem?_eq_getElem (by exact h), Option.getD_some]
  rfl
theorem any_take (T : List UInt8) (y : UInt8) (j : Nat) (c : UInt8) (h : T[j]? = some c) : (T.take (j + 1)).any (· == y) = ((T.take j).any (· == y) || (c == y)) := by
  obtain ⟨hj, e⟩ := List.getElem?_eq_some_iff.1 h
  rw [List.take_succ_eq_append_getElem hj, List.any_append, e]
  simp
theorem below_drewL8 (w : World) (n : Nat) : Below w.heap.size w (w.drewN n) := ⟨rfl, rfl, rfl, Nat.le_refl _, fun _ _ => rfl⟩
theorem wrap_small (u : Nat) (h : u < 2000) : wrap64 (u : Int) = (u : Int) ∧ IntKind.i64.wrap (u : Int) = (u : Int) := by
  refine ⟨?_, ?_⟩
  · unfold wrap64; omega
  · rw [IntKind.wrap_i64]; omega
theorem wrap_one (z : Nat) (h : z < 2000) : wrap64 ((z : Int) + 1) = (z : Int) + 1 := by unfold wrap64; omega
theorem block_normal {n : Nat} {K : Act → World → Prop} {Q : Exit → Act → World → Prop} {a : Act} {w : World} (h : K a w) : Exit.inBlock n (Exit.then K Q) .normal a w := h
theorem upd_more (mm m : Nat → List UInt8) (k j : Nat) (l : List UInt8) (hj : j < 4) (h : ∀ x, x < 32 → mm x = if x / 4 = k ∧ x % 4 < j then l else m (x / 4)) : ∀ x, x < 32 → upd mm (k * 4 + j) l x = if x / 4 = k ∧ x % 4 < j + 1 then l else m (x / 4) := fun x hx => by
  by_cases e : x = k * 4 + j
  · rw [e, upd_same, if_pos (by omega)]
  · rw [upd_other _ _ e, h x hx]
    by_cases q : x / 4 = k ∧ x % 4 < j
    · rw [if_pos q, if_pos (by omega)]
    · rw [if_neg q, if_neg (by omega)]
theorem upd_four (mm m : Nat → List UInt8) (k : Nat) (l : List UInt8) (h : ∀ x, x < 32 → mm x = if x / 4 = k ∧ x % 4 < 4 then l else m (x / 4)) : ∀ x, x < 32 → mm x = upd m k l (x / 4) := fun x hx => by
  rw [h x hx]
  unfold upd
  by_cases q : x / 4 = k
  · rw [if_pos (by omega), if_pos q]
  · rw [if_neg (by omega), if_neg q]
set_option maxRecDepth 100000 in
set_option maxHeartbeats 8000000 in
theorem lasts_walk {w : World} {p : Option Addr} {n c : Nat} {L : List (Int × UInt8)} (hx : OpsAt w p n L) (hnc : n ≤ c) (hc : c ≤ 9223372036854775807)
    {p2 : Option Addr} {n2 c2 : Nat} {L2 : List (Int × UInt8)} (hx2 : OpsAt w p2 n2 L2) (hnc2 : n2 ≤ c2) (hc2 : c2 ≤ 9223372036854775807)
    {p3 : Option Addr} {n3 c3 : Nat} {l : List Int} (hl : IntsAt w (.slice p3 n3 c3) l) (hn3 : n3 = l.length) (hnc3 : n3 ≤ c3) (hc3 : c3 ≤ 9223372036854775807) :
    Calls Try.prog 4 #[.slice p n c, .slice p2 n2 c2, .slice p3 n3 c3] w fun e w' => e = .returned (.bool true) ∧ Below w.heap.size w w' := by
  have hq := ptr_eql
  subst hn3
  have hlm : l.length ≤ 9223372036854775807 := by omega
  have hni : (n : Int) ≤ 9223372036854775807 := by omega
  have hni2 : (n2 : Int) ≤ 9223372036854775807 := by omega
  have hand := and_seven
  go_enter Try.func4, Try.ntmps4
  go_wp2_with fail
  refine (awake_any _).mono ?_
  rintro e w1 ⟨rfl, hB1⟩
  go_wp2_with fail
  refine (own_new 8 _).mono ?_
  rintro e w2 ⟨b, rfl, o0⟩
  have o0' : Own w w2 b (Dev.new 8) := by
    obtain ⟨h, q1, q2, q3, q4⟩ := o0
    exact ⟨h, q1, q2, fun k hk => by have := q3 k hk; have := hB1.size; omega, below_new hB1 q4⟩
  clear o0 hB1
  have hA0 := Ahd.new
  generalize Dev.new 8 = D0 at o0' hA0
  go_wp2_with fail
  have hLas : ∃ V, Las w (w2.alloc (.cells V 50)) b w2.heap.size D0 V (fun _ => 0) (fun _ => []) 0 ∧ V = Array.replicate 32 (.slice none 0 0) := by
    refine ⟨_, ⟨(o0'.toG).more (below_new1 _ _) ?_ ?_, Holds.new _ _ _, by simp, fun i hi => absurd hi (by omega), fun i j hi => absurd hi (by omega), fun i hi => absurd hi (by omega), ?_⟩, rfl⟩
    · rintro k (q | ⟨i, hi, _⟩)
      · exact .inr (by omega)
      · omega
    · rintro k (q | ⟨i, hi, _⟩)
      · rw [q]; exact (Holds.new w2 50 _).lt
      · omega
    · exact o0'.all.size
  obtain ⟨V0, hLas, hV0⟩ := hLas
  have hV1 := congrArg Array.toList hV0
  clear o0'
  go_wp2_with fail
  generalize hg : w2.heap.size = g at hLas
  rw [show (#[Value.slice none 0 0, Value.slice none 0 0, Value.slice none 0 0, Value.slice none 0 0, Value.slice none 0 0, Value.slice none 0 0, Value.slice none 0 0, Value.slice none 0 0, Value.slice none 0 0, Value.slice none 0 0, Value.slice none 0 0, Value.slice none 0 0, Value.slice none 0 0, Value.slice none 0 0, Value.slice none 0 0, Value.slice none 0 0, Value.slice none 0 0, Value.slice none 0 0, Value.slice none 0 0, Value.slice none 0 0, Value.slice none 0 0, Value.slice none 0 0, Value.slice none 0 0, Value.slice none 0 0, Value.slice none 0 0, Value.slice none 0 0, Value.slice none 0 0, Value.slice none 0 0, Value.slice none 0 0, Value.slice none 0 0, Value.slice none 0 0, Value.slice none 0 0] : Array Value) = V0 from by rw [hV0]; rfl]
  generalize w2.alloc (.cells V0 50) = w3 at hLas
  clear hg hV0 hV1 w2
  go_loopw [10] (fun y wr => ∃ (i : Nat) (V : Array Value) (R : Nat → Nat) (mm : Nat → List UInt8), y = .int .i64 (i : Nat) ∧ i ≤ 8 ∧ Las w wr b g D0 V R mm (4 * i) ∧ ∀ j, j < 4 * i → mm j = [0]) (fun y _ => 8 - (intOf y).toNat)
  case atStart => exact ⟨0, _, _, _, rfl, by omega, hLas, fun j hj => absurd hj (by omega)⟩
  case round =>
    clear hLas
    obtain ⟨i, V, R, mm, rfl, hi8, o, hmm⟩ := hrel
    by_cases hi : i < 8
    · have hii : (i : Int) < 8 := by omega
      go_wp2_with fail
      go_loopw [11] (fun y wr => ∃ (k : Nat) (V : Array Value) (R : Nat → Nat) (mm : Nat → List UInt8), y = .int .i64 (k : Nat) ∧ k ≤ 4 ∧ Las w wr b g D0 V R mm (4 * i + k) ∧ ∀ j, j < 4 * i + k → mm j = [0]) (fun y _ => 4 - (intOf y).toNat)
      case atStart => exact ⟨0, _, _, _, rfl, by omega, o, hmm⟩
      case round =>
        clear o hmm
        obtain ⟨k, V, R, mm, rfl, hk4, o, hmm⟩ := hrel
        by_cases hk : k < 4
        · have hki : (k : Int) < 4 := by omega
          obtain ⟨vo, hvo⟩ : ∃ vo, V[i * 4 + k]? = some vo := ⟨_, Array.getElem?_eq_getElem (by rw [o.may.size]; omega)⟩
          have hcell : (wr.alloc (.cells #[.int .u8 0] 5)).cell? ⟨g, i * 4 + k, none⟩ = some vo := ((o.may.cells.alloc _).cell _).trans hvo
          have hfr : (wr.alloc (.cells #[.int .u8 0] 5)).frozen? ⟨g, i * 4 + k, none⟩ = false := (o.may.cells.alloc _).frozen _
          go_wp2_with fail
          go_roundw
          case rel =>
            have hn := o.fresh (i := i * 4 + k) (c' := 4 * i + (k + 1)) (by omega) (fun j hj hne => by omega) 0
            refine ⟨k + 1, _, _, _, by go_num, by omega, hn, fun j hj => ?_⟩
            by_cases e : j = i * 4 + k
            · rw [e, upd_same]
            · rw [upd_other _ _ e]; exact hmm j (by omega)
          case measure => simp [intOf]; omega
        · have hki : ¬ (k : Int) < 4 := by omega
          have hk4' : 4 * i + k = 4 * (i + 1) := by omega
          rw [hk4'] at o hmm
          clear hk4'
          go_wp2_with fail
          go_roundw
          case rel => exact ⟨i + 1, _, _, _, by go_num, by omega, o, hmm⟩
          case measure => simp [intOf]; omega
    · have hii : ¬ (i : Int) < 8 := by omega
      obtain rfl : i = 8 := by omega
      rw [show 4 * 8 = 32 from rfl] at o hmm
      clear hi hi8 hii
      go_wp2_with fail
      go_loopw [12] (fun y wr => ∃ (i : Nat) (D : Dev) (V : Array Value) (R : Nat → Nat) (mm m : Nat → List UInt8), y = .int .i64 (i : Nat) ∧ i ≤ 30 ∧ Las w wr b g D V R mm 32 ∧ Ahd i m D ∧ ∀ x, x < 32 → mm x = m (x / 4)) (fun y _ => 30 - (intOf y).toNat)
      case atStart => exact ⟨0, D0, V, R, mm, _, rfl, by omega, o, hA0, fun x hx => hmm x hx⟩
      case round =>
        clear o hmm hA0
        obtain ⟨i, D, V, R, mm, m, rfl, hi30, o, hA, hmm⟩ := hrel
        by_cases hi : i < n ∧ i < 30
        · as_aux_lemma =>
          obtain ⟨hi1, hi2⟩ := hi
          have hi1i : (i : Int) < n := by omega
          have hi2i : (i : Int) < 30 := by omega
          obtain ⟨⟨t1, t2⟩, ht⟩ : ∃ t, L[i]? = some t := ⟨_, List.getElem?_eq_getElem (by have := hx.1; omega)⟩
          rcases hx.2 with h0 | ⟨gb, go, rfl, _⟩
          · omega
          have hcl : ∀ W, Below w.heap.size w W → W.cell? ⟨gb, go + i * 4 + 1, none⟩ = some (.int .i64 t1) ∧ W.cell? ⟨gb, go + i * 4 + 2, none⟩ = some (.int .u8 (t2.toNat : Nat)) := fun W hW => by
            rcases (hx.below hW).2 with h0 | ⟨gb', go', e, hq⟩
            · omega
            · injection e with e
              injection e with e1 e2
              subst e1 e2
              exact hq i _ ht
          have c1 := (hcl wr o.own.all).1
          have c2 := (hcl wr o.own.all).2
          obtain ⟨k, hk8, hkk⟩ : ∃ k : Nat, k < 8 ∧ t1 % 8 = (k : Int) := ⟨(t1 % 8).toNat, by omega, by omega⟩
          go_wp2_with fail
          refine (fill_any t2 _).mono ?_
          rintro e w4 ⟨rfl, hB4⟩
          have o4 := o.below hB4
          clear o hB4 c1 c2
          obtain ⟨S, hS⟩ : ∃ S, S = fillOf 1024 t2 := ⟨_, rfl⟩
          rw [← hS]
          obtain ⟨hw0, hA'⟩ := hA.step hk8 t2
          rw [← hS] at hw0 hA'
          clear hS
          go_wp2_with fail
          refine (ownG_write o4.own hA.calm.ok (by omega) (k : Int) (by omega) S).mono ?_
          rintro e w5 ⟨rfl, o5, hs5⟩
          have o6 := o4.same o5 hs5
          rw [hw0]
          clear o4 o5 hs5 hw0 hA
          generalize (D.write (k : Int) S).2 = D' at hA' o6
          have hkii : (k : Int) < 8 := by omega
          go_wp2_with fail
          go_loopw [14] (fun y wr => ∃ (j : Nat) (V : Array Value) (R : Nat → Nat) (mm : Nat → List UInt8), y = .int .i64 (j : Nat) ∧ j ≤ 4 ∧ Las w wr b g D' V R mm 32 ∧ ∀ x, x < 32 → mm x = if x / 4 = k ∧ x % 4 < j then [t2] else m (x / 4)) (fun y _ => 4 - (intOf y).toNat)
          case atStart => exact ⟨0, _, _, _, rfl, by omega, o6, fun x hx => by rw [if_neg (by omega)]; exact hmm x hx⟩
          case round =>
            clear o6 hmm
            obtain ⟨j, V, R, mm, rfl, hj4, o, hmm⟩ := hrel
            by_cases hj : j < 4
            · have hji : (j : Int) < 4 := by omega
              obtain ⟨vo, hvo⟩ : ∃ vo, V[k * 4 + j]? = some vo := ⟨_, Array.getElem?_eq_getElem (by rw [o.may.size]; omega)⟩
              have hcell : (wr.alloc (.cells #[u8v t2] 5)).cell? ⟨g, k * 4 + j, none⟩ = some vo := ((o.may.cells.alloc _).cell _).trans hvo
              have hfr : (wr.alloc (.cells #[u8v t2] 5)).frozen? ⟨g, k * 4 + j, none⟩ = false := (o.may.cells.alloc _).frozen _
              have hk0 : (0 : Int) ≤ (k : Int) := by omega
              have hj0 : (0 : Int) ≤ (j : Int) := by omega
              have hn := o.drew.fresh (i := k * 4 + j) (c' := 32) (by omega) (fun x hx _ => hx) t2
              go_wp2_with fail
              refine wp_region_plan (fun W => Below w.heap.size w W) [.take 0, .take 1, .take 2, .take 3, .take 4, .take 5, .take 6, .take 8, .one 7, .take 9, .one 10] mixedP (by kernel_rfl) rfl (by kernel_rfl) (fun _ _ _ d _ h => by cases d <;> exact h) o.own.all.drew ?_
              refine plan_val (some 72) rfl rfl rfl (.int .i64 (k : Nat)) (fun _ => by go_simp) ?_
              go_frame
              refine plan_val (some 73) rfl rfl rfl (.int .i64 (j : Nat)) (fun _ => by go_simp) ?_
              go_frame
              refine plan_val (some 74) rfl rfl rfl (.slice (some ⟨gb, go, none⟩) n c) (fun _ => by go_simp) ?_
              go_frame
              refine plan_val (some 75) rfl rfl rfl (.int .i64 (i : Nat)) (fun _ => by go_simp) ?_
              go_frame
              refine plan_val (some 76) rfl rfl rfl (.pointer (some ⟨gb, go + i * 4, none⟩)) (fun _ => by go_simp) ?_
              go_frame
              refine plan_val (some 77) rfl rfl rfl (.pointer (some ⟨gb, go + i * 4 + 2, none⟩)) (fun _ => by go_simp) ?_
              go_frame
              refine plan_ldU (some 78) rfl rfl rfl _ rfl rfl (v := .int .u8 (t2.toNat : Nat)) (fun W hW => (hcl W hW).2) ?_
              go_frame
              refine plan_val (some 80) rfl rfl rfl (.pointer (some ⟨g, k * 4, none⟩)) (fun _ => by go_simp) ?_
              go_frame
              refine plan_one (some 79) rfl rfl rfl (v := .slice (some ⟨wr.drew.heap.size, 0, none⟩) 1 1) (w' := wr.drew.alloc (.cells #[u8v t2] 5)) (by unfold u8v; go_simp) (o.own.all.drew.alloc o.own.all.size _) ?_
              go_frame
              refine plan_val (some 81) rfl rfl rfl (.pointer (some ⟨g, k * 4 + j, none⟩)) (fun _ => by go_simp) ?_
              go_frame
              refine plan_skip none rfl rfl rfl (w' := (wr.drew.alloc (.cells #[u8v t2] 5)).setCell ⟨g, k * 4 + j, none⟩ (.slice (some ⟨wr.drew.heap.size, 0, none⟩) 1 1)) (by go_simp) hn.own.all ?_
              go_frame
              refine block_normal ?_
              go_at_K
              have HN : Hid (∃ V R mm, Las w _ b g D' V R mm 32 ∧ ∀ x, x < 32 → mm x = if x / 4 = k ∧ x % 4 < j + 1 then [t2] else m (x / 4)) := ⟨_, _, _, hn, upd_more mm m k j [t2] hj hmm⟩
              clear hn hcell hfr o hvo
              generalize (wr.drew.alloc (.cells #[u8v t2] 5)).setCell ⟨g, k * 4 + j, none⟩ (.slice (some ⟨wr.drew.heap.size, 0, none⟩) 1 1) = w9 at HN ⊢
              go_wp2_with fail
              obtain ⟨V2, R2, mm2, hL2, hm2⟩ := HN.out
              exact ⟨⟨j + 1, V2, R2, mm2, by go_num, by omega, hL2, hm2⟩, by simp [intOf]; omega⟩
            · have hji : ¬ (j : Int) < 4 := by omega
              obtain rfl : j = 4 := by omega
              go_wp2_with fail
              exact ⟨⟨i + 1, by simp, by omega, D', V, R, mm, o, _, hA', upd_four mm m k [t2] hmm⟩, by simp [intOf]; omega⟩
        · clear hx
          rename_i K hK
          have HK : ∀ x45 x46 x47 x48 : Value, K { tmps := #[Value.slice p n c, Value.slice p2 n2 c2, Value.slice p3 l.length c3, undef, undef, undef, u6, Value.bool true, Value.pointer (some { block := b, off := 0 }), Value.pointer (some { block := g, off := 0 }), Value.int IntKind.i64 8, u11, Value.int IntKind.i64 ↑i, u13, u14, undef, undef, undef, undef, undef, undef, undef, undef, undef, undef, Value.bool true, Value.pointer (some { block := b, off := 0 }), Value.pointer (some { block := b, off := 0 }), Value.bool false, Value.int IntKind.i64 8, Value.bool false, u31, u32, u33, u34, u35, u36, u37, u38, u39, u40, u41, Value.int IntKind.i64 ↑i, Value.slice p n c, Value.int IntKind.i64 ↑n, x45, x46, x47, x48, Value.bool false, u50, u51, u52, u53, u54, u55, u56, u57, u58, u59, u60, u61, u62, u63, u64, u65, u66, u67, u68, u69, u70, u71, u72, u73, u74, u75, u76, u77, u78, u79, u80, u81, undef, undef, undef, undef, undef, undef, undef, undef, undef, undef, undef, undef, undef, undef, undef, undef, undef, undef, undef, undef, undef, undef, undef, undef, undef, undef, undef, undef, undef, undef, undef, undef, undef, undef, undef, undef, undef, undef, undef, undef, undef, undef, undef, undef, undef, undef, undef, undef, undef, undef, undef, undef, undef, undef, undef, undef, undef, undef, undef, undef, undef, undef, undef, undef, undef, undef, undef, undef, undef, undef, undef, undef, undef, undef, undef, undef, undef, undef, undef, undef, undef, undef, undef, undef, undef, undef, undef, undef, undef, undef, undef, undef, undef, undef, undef, undef, undef, undef, undef, undef, undef, undef, undef, undef, undef, undef, undef, undef, undef, undef, undef, undef, undef, undef, undef, undef, undef, undef, undef, undef], defers := [] } wr := by
            intro x45 x46 x47 x48
            as_aux_lemma =>
            go_at_K
            have hlen : ∀ x, x < 32 → (mm x).length = 1 := fun x hx => by
              rw [hmm x hx]
              rcases hA.one (x / 4) (by omega) with ⟨_, e⟩ | ⟨c, _, e⟩ <;> rw [e] <;> rfl
            go_wp2_with fail
            refine (ownG_sync o.own hA.calm.ok (by omega)).mono ?_
            rintro e w4 ⟨rfl, o4, hs4⟩
            have o5 := o.same o4 hs4
            obtain ⟨hs0, hBh⟩ := hA.sync
            rw [hs0]
            clear o o4 hs4 hs0 hA hi
            generalize D.sync.2 = D1 at hBh o5
            have F0 : Hid (Las w w4 b g D1 V R mm 32 ∧ Bhd (i + 1) m D1 ∧ (∀ x, x < 32 → mm x = m (x / 4)) ∧ ∀ x, x < 32 → (mm x).length = 1) := ⟨o5, hBh, hmm, hlen⟩
            clear o5 hBh hmm hlen
            go_wp2_with fail
            go_loopw [15] (fun y wr => ∃ (i' N : Nat) (D : Dev) (V : Array Value) (R : Nat → Nat) (mm m : Nat → List UInt8), y = .int .i64 (i' : Nat) ∧ i' ≤ 30 ∧ N ≤ 31 + i' ∧ Las w wr b g D V R mm 32 ∧ Bhd N m D ∧ (∀ x, x < 32 → mm x = m (x / 4)) ∧ ∀ x, x < 32 → (mm x).length ≤ 1 + i') (fun y _ => 30 - (intOf y).toNat)
            case atStart => exact ⟨0, i + 1, D1, V, R, mm, m, rfl, by omega, by omega, F0.out.1, F0.out.2.1, F0.out.2.2.1, fun x hx => by rw [F0.out.2.2.2 x hx]; omega⟩
            case round =>
              clear F0
              obtain ⟨i', N, D, V, R, mm, m, rfl, hi30, hN, o, hBh, hmm, hlen⟩ := hrel
              by_cases hi : i' < n2 ∧ i' < 30
              · as_aux_lemma =>
                obtain ⟨hi1, hi2⟩ := hi
                have hi1i : (i' : Int) < n2 := by omega
                have hi2i : (i' : Int) < 30 := by omega
                obtain ⟨⟨t1, t2⟩, ht⟩ : ∃ t, L2[i']? = some t := ⟨_, List.getElem?_eq_getElem (by have := hx2.1; omega)⟩
                rcases hx2.2 with h0 | ⟨gb, go, rfl, _⟩
                · omega
                have hcl : ∀ W, Below w.heap.size w W → W.cell? ⟨gb, go + i' * 4 + 1, none⟩ = some (.int .i64 t1) ∧ W.cell? ⟨gb, go + i' * 4 + 2, none⟩ = some (.int .u8 (t2.toNat : Nat)) := fun W hW => by
                  rcases (hx2.below hW).2 with h0 | ⟨gb', go', e, hq⟩
                  · omega
                  · injection e with e
                    injection e with e1 e2
                    subst e1 e2
                    exact hq i' _ ht
                have c1 := (hcl wr o.own.all).1
                have c2 := (hcl wr o.own.all).2
                obtain ⟨k, hk8, hkk⟩ : ∃ k : Nat, k < 8 ∧ t1 % 8 = (k : Int) := ⟨(t1 % 8).toNat, by omega, by omega⟩
                go_wp2_with fail
                refine (fill_any t2 _).mono ?_
                rintro e w5 ⟨rfl, hB5⟩
                have o4 := o.below hB5
                clear o hB5 c1 c2
                obtain ⟨S, hS⟩ : ∃ S, S = fillOf 1024 t2 := ⟨_, rfl⟩
                rw [← hS]
                obtain ⟨hw0, hB'⟩ := hBh.step hk8 t2
                rw [← hS] at hw0 hB'
                clear hS
                go_wp2_with fail
                refine (ownG_write o4.own hBh.calm.ok (by omega) (k : Int) (by omega) S).mono ?_
                rintro e w6 ⟨rfl, o5, hs5⟩
                have o6 := o4.same o5 hs5
                rw [hw0]
                clear o4 o5 hs5 hw0 hBh
                generalize (D.write (k : Int) S).2 = D' at hB' o6
                have hkii : (k : Int) < 8 := by omega
                go_wp2_with fail
                go_loopw [17] (fun y wr => ∃ (j : Nat) (V : Array Value) (R : Nat → Nat) (mm : Nat → List UInt8), y = .int .i64 (j : Nat) ∧ j ≤ 4 ∧ Las w wr b g D' V R mm 32 ∧ (∀ x, x < 32 → mm x = if x / 4 = k ∧ x % 4 < j then m k ++ [t2] else m (x / 4)) ∧ ∀ x, x < 32 → (m (x / 4)).length ≤ 1 + i') (fun y _ => 4 - (intOf y).toNat)
                case atStart => exact ⟨0, _, _, _, rfl, by omega, o6, fun x hx => by rw [if_neg (by omega)]; exact hmm x hx, fun x hx => by rw [← hmm x hx]; exact hlen x hx⟩
                case round =>
                  clear o6 hmm hlen
                  obtain ⟨j, V, R, mm, rfl, hj4, o, hmm, hlen⟩ := hrel
                  by_cases hj : j < 4
                  · have hji : (j : Int) < 4 := by omega
                    have hk0 : (0 : Int) ≤ (k : Int) := by omega
                    have hj0 : (0 : Int) ≤ (j : Int) := by omega
                    obtain ⟨v, hv, hvb, hvo⟩ := o.may.row (k * 4 + j) (by omega)
                    have hmk : mm (k * 4 + j) = m k := by rw [hmm _ (by omega), if_neg (by omega), show (k * 4 + j) / 4 = k by omega]
                    have hml : (mm (k * 4 + j)).length ≤ 31 := by rw [hmk]; have := hlen (k * 4 + j) (by omega); rw [show (k * 4 + j) / 4 = k by omega] at this; omega
                    obtain ⟨i8, hi8, hiz, his, hib⟩ := infoU8L
                    have hmax : 1000 ≤ maxLen := by decide
                    obtain ⟨v', w7, hrun, how, hgr, _⟩ := run_append_own (P := Try.prog) (wr.drew.alloc (.cells #[u8v t2] 5)) w.heap.size 48 48 5 i8 (.int .u8 0) 1 1 underBytesL hi8 hiz his hib rfl (by omega) v (mm (k * 4 + j)).length ((mm (k * 4 + j)).map u8v) (World.ownsRow.alloc hvo _) ⟨wr.drew.heap.size, 0, none⟩ 1 1 [u8v t2] rfl (one_newsL wr.drew _) (by intro u hu; simp at hu; subst hu; rfl) (by omega) (by omega) (by rw [World.size_alloc]; have := o.own.all.size; show _ ≤ wr.heap.size + 1; omega)
                    obtain ⟨z7, g7, cap7, rfl⟩ := owned_one how
                    have hwh := append_where (P := Try.prog) underBytesL hi8 hiz (World.ownsRow.alloc (by rw [his]; exact hvo) (.cells #[u8v t2] 5)) (by rw [his]; rfl) (one_newsL wr.drew (u8v t2)) (by intro u hu; simp at hu; subst hu; rfl) (by omega) (by omega) (by rw [hib]; omega) hrun
                    have oal := o.drew.below (below_new1 wr.drew (.cells #[u8v t2] 5))
                    obtain ⟨R', hn⟩ := oal.more (i := k * 4 + j) (by omega) (by omega) hv t2 how hgr hwh
                    have hglt : g < (wr.drew.alloc (.cells #[u8v t2] 5)).heap.size := oal.may.cells.lt
                    have hgne : some g ≠ v.ownBlock := fun q => by rw [hvb] at q; injection q with q; exact o.may.ne _ (by omega) q.symm
                    have hg7 : Holds w7 g 50 V := by have := oal.may.cells; unfold Holds at *; rw [hgr.block g hglt hgne]; exact this
                    have hc7 : w7.cell? ⟨g, k * 4 + j, none⟩ = some v := (hg7.cell _).trans hv
                    have hf7 : w7.frozen? ⟨g, k * 4 + j, none⟩ = false := hg7.frozen _
                    have hb7 : Below w.heap.size w w7 := Below.grown (o.own.all.drew.alloc o.own.all.size _) hgr (by rw [World.size_alloc]; have := o.own.all.size; show _ ≤ wr.heap.size + 1; omega) (fun q hq => by rw [hvb] at hq; injection hq with hq; rw [← hq]; exact (o.may.obj (.inr ⟨_, by omega, rfl⟩)).1)
                    have hgnL : Hid (∃ V R mm, Las w (w7.setCell ⟨g, k * 4 + j, none⟩ (.slice (some ⟨g7, 0, none⟩) z7 cap7)) b g D' V R mm 32 ∧ ∀ x, x < 32 → mm x = if x / 4 = k ∧ x % 4 < j + 1 then m k ++ [t2] else m (x / 4)) := by
                      refine ⟨_, _, _, hn, ?_⟩
                      rw [hmk]
                      exact upd_more mm m k j _ hj hmm
                    have hC1 : Below w.heap.size w wr.drew ∧ wr.drew.cell? ⟨g, k * 4 + j, none⟩ = some v := ⟨o.own.all.drew, (o.drew.may.cells.cell _).trans hv⟩
                    have hC2 : Below w.heap.size w (wr.drew.alloc (.cells #[u8v t2] 5)) ∧ (wr.drew.alloc (.cells #[u8v t2] 5)).cell? ⟨g, k * 4 + j, none⟩ = some v := ⟨o.own.all.drew.alloc o.own.all.size _, (oal.may.cells.cell _).trans hv⟩
                    have HL : Hid (∀ x, x < 32 → (m (x / 4)).length ≤ 1 + i') := hlen
                    clear hn hgne hg7 hglt oal hwh how hgr hml hmk hvo hvb hv hmm hlen o
                    go_wp2_with fail
                    refine wp_region_planE (fun W => Below w.heap.size w W ∧ W.cell? ⟨g, k * 4 + j, none⟩ = some v) 16 [.take 0, .take 1, .take 2, .take 3, .take 4, .take 5, .take 6, .take 7, .take 8, .take 9, .take 10, .take 11, .take 14, .one 12, .one 13, .take 15, .one 16] mixedP (by kernel_rfl) rfl (by kernel_rfl) (by kernel_rfl) rfl (fun _ _ _ d _ h => by cases d <;> exact h) hC1 ?_
                    refine planE_val (some 115) rfl rfl rfl (.int .i64 (k : Nat)) (fun W hC => by go_simp) ?_
                    go_frame
                    refine planE_val (some 116) rfl rfl rfl (.int .i64 (j : Nat)) (fun W hC => by go_simp) ?_
                    go_frame
                    refine planE_val (some 117) rfl rfl rfl (.int .i64 (k : Nat)) (fun W hC => by go_simp) ?_
                    go_frame
                    refine planE_val (some 118) rfl rfl rfl (.int .i64 (j : Nat)) (fun W hC => by go_simp) ?_
                    go_frame
                    refine planE_val (some 119) rfl rfl rfl (.pointer (some ⟨g, k * 4, none⟩)) (fun W hC => by go_simp) ?_
                    go_frame
                    refine planE_val (some 120) rfl rfl rfl (.pointer (some ⟨g, k * 4 + j, none⟩)) (fun W hC => by go_simp) ?_
                    go_frame
                    refine planE_val (some 121) rfl rfl rfl (v) (fun W hC => by have hcv := hC.2; go_simp) ?_
                    go_frame
                    refine planE_val (some 122) rfl rfl rfl (.slice (some ⟨gb, go, none⟩) n2 c2) (fun W hC => by go_simp) ?_
                    go_frame
                    refine planE_val (some 123) rfl rfl rfl (.int .i64 (i' : Nat)) (fun W hC => by go_simp) ?_
                    go_frame
                    refine planE_val (some 124) rfl rfl rfl (.pointer (some ⟨gb, go + i' * 4, none⟩)) (fun W hC => by go_simp) ?_
                    go_frame
                    refine planE_val (some 125) rfl rfl rfl (.pointer (some ⟨gb, go + i' * 4 + 2, none⟩)) (fun W hC => by go_simp) ?_
                    go_frame
                    refine planE_val (some 126) rfl rfl rfl (.int .u8 (t2.toNat : Nat)) (fun W hC => by have hcv := (hcl W hC.1).2; go_simp) ?_
                    go_frame
                    refine planE_val (some 129) rfl rfl rfl (.pointer (some ⟨g, k * 4, none⟩)) (fun W hC => by go_simp) ?_
                    go_frame
                    refine planE_one (some 127) rfl rfl rfl (v := .slice (some ⟨wr.drew.heap.size, 0, none⟩) 1 1) (w' := wr.drew.alloc (.cells #[u8v t2] 5)) (by unfold u8v; go_simp) hC2 ?_
                    go_frame
                    refine planE_one (some 128) rfl rfl rfl (v := .slice (some ⟨g7, 0, none⟩) z7 cap7) (w' := w7) (exec_append rfl rfl rfl hrun) ⟨hb7, hc7⟩ ?_
                    go_frame
                    refine planE_val (some 130) rfl rfl rfl (.pointer (some ⟨g, k * 4 + j, none⟩)) (fun W hC => by go_simp) ?_
                    go_frame
                    refine planE_last none rfl rfl rfl (w' := w7.setCell ⟨g, k * 4 + j, none⟩ (.slice (some ⟨g7, 0, none⟩) z7 cap7)) (by go_simp) ?_
                    go_frame
                    refine block_normal ?_
                    go_at_K
                    generalize w7.setCell ⟨g, k * 4 + j, none⟩ (.slice (some ⟨g7, 0, none⟩) z7 cap7) = w9 at hgnL ⊢
                    clear hc7 hf7 hb7 hC1 hC2 hrun
                    go_wp2_with fail
                    obtain ⟨V2, R2, mm2, hL2, hm2⟩ := hgnL.out
                    exact ⟨⟨j + 1, V2, R2, mm2, by go_num, by omega, hL2, hm2, HL.out⟩, by simp [intOf]; omega⟩
                  · have hji : ¬ (j : Int) < 4 := by omega
                    obtain rfl : j = 4 := by omega
                    go_wp2_with fail
                    refine ⟨⟨i' + 1, N + 1, D', V, R, mm, _, by go_num, by omega, by omega, o, hB', upd_four mm m k _ hmm, fun x hx => ?_⟩, by simp [intOf]; omega⟩
                    rw [hmm x hx]
                    split
                    · have := hlen (4 * k) (by omega)
                      rw [show 4 * k / 4 = k by omega] at this
                      rw [List.length_append]
                      show _ + 1 ≤ _
                      omega
                    · have := hlen x hx
                      omega
              · rename_i K2 hK2
                have HK2 : ∀ x88 x89 x90 x91 : Value, K2 { tmps := #[Value.slice p n c, Value.slice p2 n2 c2, Value.slice p3 l.length c3, undef, undef, undef, u6, Value.bool true, Value.pointer (some { block := b, off := 0 }), Value.pointer (some { block := g, off := 0 }), Value.int IntKind.i64 8, u11, Value.int IntKind.i64 ↑i, u13, u14, Value.int IntKind.i64 ↑i', u16, u17, undef, undef, undef, undef, undef, undef, undef, Value.bool true, Value.pointer (some { block := b, off := 0 }), Value.pointer (some { block := b, off := 0 }), Value.bool false, Value.int IntKind.i64 8, Value.bool false, u31, u32, u33, u34, u35, u36, u37, u38, u39, u40, u41, Value.int IntKind.i64 ↑i, Value.slice p n c, Value.int IntKind.i64 ↑n, x45, x46, x47, x48, Value.bool false, u50, u51, u52, u53, u54, u55, u56, u57, u58, u59, u60, u61, u62, u63, u64, u65, u66, u67, u68, u69, u70, u71, u72, u73, u74, u75, u76, u77, u78, u79, u80, u81, Value.pointer (some { block := b, off := 0 }), Value.int IntKind.i64 0, Value.bool false, Value.int IntKind.i64 ↑i', Value.slice p2 n2 c2, Value.int IntKind.i64 ↑n2, x88, x89, x90, x91, Value.bool false, u93, u94, u95, u96, u97, u98, u99, u100, u101, u102, u103, u104, u105, u106, u107, u108, u109, u110, u111, u112, u113, u114, u115, u116, u117, u118, u119, u120, u121, u122, u123, u124, u125, u126, u127, u128, u129, u130, undef, undef, undef, undef, undef, undef, undef, undef, undef, undef, undef, undef, undef, undef, undef, undef, undef, undef, undef, undef, undef, undef, undef, undef, undef, undef, undef, undef, undef, undef, undef, undef, undef, undef, undef, undef, undef, undef, undef, undef, undef, undef, undef, undef, undef, undef, undef, undef, undef, undef, undef, undef, undef, undef, undef, undef, undef, undef, undef, undef, undef, undef, undef, undef, undef, undef, undef, undef, undef, undef, undef], defers := [] } wr := by
                  intro x88 x89 x90 x91
                  as_aux_lemma =>
                  go_at_K
                  go_wp2_with fail
                  refine (ownG_crash o.own hBh.calm.ok (by omega) hl rfl hnc3 hlm).mono ?_
                  rintro e w7 ⟨rfl, o7, hs7⟩
                  have o8 := o.same o7 hs7
                  have hAf := hBh.crash l
                  clear o o7 hs7 hBh hi
                  generalize D.crash l = E at hAf o8
                  have F1 : Hid (Las w w7 b g E V R mm 32 ∧ Aft N m E) := ⟨o8, hAf⟩
                  clear o8 hAf
                  go_wp2_with fail
                  go_loopw [18] (fun y wr => ∃ (q N' : Nat) (E : Dev), y = .int .i64 (q : Nat) ∧ q ≤ 8 ∧ N' ≤ 61 + q ∧ Las w wr b g E V R mm 32 ∧ Aft N' m E) (fun y _ => 8 - (intOf y).toNat)
                  case atStart => exact ⟨0, N, E, rfl, by omega, by omega, F1.out.1, F1.out.2⟩
                  case round =>
                    clear F1
                    obtain ⟨q, N', E, rfl, hq8, hN', o, hAf⟩ := hrel
                    by_cases hq : q < 8
                    · have hqi : (q : Int) < 8 := by omega
                      go_wp2_with fail
                      refine (ownG_read o.own hAf.calm.ok (by omega) (q : Int) (by omega)).mono ?_
                      rintro e w8 ⟨rfl, o7, hs7⟩
                      have o8 := o.same o7 hs7
                      obtain ⟨S, E', hrd, hSs, hsec, hAf'⟩ := hAf.read hq
                      rw [hrd] at o8 ⊢
                      dsimp only at o8 ⊢
                      have hSi : (S.size : Int) = 1024 := by omega
                      have F2 : Hid (Las w w8 b g E' V R mm 32 ∧ Aft (N' + 1) m E') := ⟨o8, hAf'⟩
                      have HSEC : Hid (Sect (oldAt S) (m q)) := hsec
                      clear o o7 hs7 hAf hrd hAf' o8 hsec
                      go_wp2_with fail
                      go_loopw [21, 22] (fun y _ wr => ∃ k : Nat, y = .int .i64 (k : Nat) ∧ k ≤ 4 ∧ Las w wr b g E' V R mm 32) (fun y _ _ => 4 - (intOf y).toNat)
                      case atStart => exact ⟨0, rfl, by omega, F2.out.1⟩
                      case round =>
                        obtain ⟨k, rfl, hk4, o⟩ := hrel
                        by_cases hk : k < 4
                        · as_aux_lemma =>
                          have hki : (k : Int) < 4 := by omega
                          obtain ⟨y, hyT, hyall⟩ := HSEC.out k hk
                          obtain ⟨x, hx⟩ : ∃ x, x = q * 4 + k := ⟨_, rfl⟩
                          have hx32 : x < 32 := by omega
                          have hmx : mm x = m q := by rw [hmm x hx32, show x / 4 = q by omega]
                          rw [← hmx] at hyT
                          have hTl : (mm x).length ≤ 31 := by have := hlen x hx32; omega
                          obtain ⟨cap, hVx, -, -⟩ := o.cellsAt hx32
                          obtain ⟨T, hT⟩ : ∃ T, T = mm x := ⟨_, rfl⟩
                          rw [← hT] at hVx hTl hyT
                          obtain ⟨a0, ha0⟩ : ∃ a0, a0 = 256 * k := ⟨_, rfl⟩
                          have ha0i : (256 : Int) * (k : Int) = (a0 : Int) := by omega
                          have ha0s : a0 < S.size := by omega
                          have ha0si : (a0 : Int) < 1024 := by omega
                          have hSa : (S[a0]'ha0s) = y := by rw [oldAt_get]; have := hyall 0 (by omega); rw [Nat.add_zero, ← ha0] at this; exact this
                          have hcl8 : ∀ W, Las w W b g E' V R mm 32 → W.cell? ⟨g, x, none⟩ = some (.slice (some ⟨R x, 0, none⟩) T.length cap) ∧ ∀ j c, T[j]? = some c → W.cell? ⟨R x, j, none⟩ = some (u8v c) := fun W oW => by
                            obtain ⟨cap2, h1, h2, h3⟩ := oW.cellsAt hx32
                            rw [← hT] at h1 h2 h3
                            rw [hVx] at h1
                            rw [← Option.some.inj h1] at h2
                            exact ⟨h2, h3⟩
                          have hall8 : ∀ j (hj : a0 + j < S.size), j < 256 → (S[a0 + j]'hj) = y := fun j hj h256 => by rw [oldAt_get]; have := hyall j h256; rw [← ha0] at this; exact this
                          have HALL : Hid (∀ j (hj : a0 + j < S.size), j < 256 → (S[a0 + j]'hj) = y) := hall8
                          have HCL : Hid (∀ W, Las w W b g E' V R mm 32 → W.cell? ⟨g, x, none⟩ = some (.slice (some ⟨R x, 0, none⟩) T.length cap) ∧ ∀ j c, T[j]? = some c → W.cell? ⟨R x, j, none⟩ = some (u8v c)) := hcl8
                          have HX : Hid (x = q * 4 + k ∧ a0 = 256 * k) := ⟨hx, ha0⟩
                          have HYT : Hid (y ∈ T) := hyT
                          clear hyall hmx hVx hT ha0 hcl8 hall8 hyT
                          have F3 : Hid (Las w wr b g E' V R mm 32) := o
                          clear o
                          go_wp2_with fail
                          go_loopw [22, 23] (fun fv yv wr => ∃ j : Nat, yv = .int .i64 (j : Nat) ∧ j ≤ T.length ∧ fv = .bool ((T.take j).any (· == y)) ∧ Las w wr b g E' V R mm 32) (fun _ yv _ => T.length - (intOf yv).toNat)
                          case atStart => exact ⟨0, rfl, by omega, by simp, F3.out⟩
                          case round =>
                            clear F3
                            obtain ⟨j, rfl, hjT, rfl, o⟩ := hrel
                            have hcx := (HCL.out wr o).1
                            rw [HX.out.1] at hcx
                            by_cases hj : j < T.length
                            · have hji : (j : Int) < T.length := by omega
                              obtain ⟨c, hc⟩ : ∃ c, T[j]? = some c := ⟨_, List.getElem?_eq_getElem hj⟩
                              have hcj := (HCL.out wr o).2 j c hc
                              have hTi : (T.length : Int) ≤ 31 := by omega
                              unfold u8v at hcj
                              rw [HX.out.1] at hcj
                              have HANY : Hid ((T.take (j + 1)).any (· == y) = ((T.take j).any (· == y) || (c == y))) := any_take T y j c hc
                              have hk0 : (0 : Int) ≤ (k : Int) := by omega
                              have hq0 : (0 : Int) ≤ (q : Int) := by omega
                              have HO : Hid (Las w wr b g E' V R mm 32) := o
                              obtain ⟨hwa1, hwa2⟩ := wrap_small a0 (by omega)
                              clear o hc
                              cases hF : (T.take j).any (· == y)
                              · by_cases hcy : c = y
                                · have hcy1 : ((c.toNat : Int) == (y.toNat : Int)) = true := by rw [hcy]; exact beq_self_eq_true _
                                  go_wp2_with fail
                                  go_quiet (fail)
                                  refine block_normal ?_
                                  go_at_K
                                  go_wp2_with fail
                                  clear hwa1 hwa2
                                  refine ⟨⟨j + 1, by go_num, by omega, ?_, HO.out.below (below_drewL8 _ _)⟩, by simp [intOf]; omega⟩
                                  rw [HANY.out, hF, hcy]
                                  simp
                                · have hcy1 : ((c.toNat : Int) == (y.toNat : Int)) = false := beq_eq_false_iff_ne.2 fun e => hcy (UInt8.toNat_inj.1 (by omega))
                                  go_wp2_with fail
                                  go_quiet (fail)
                                  refine block_normal ?_
                                  go_at_K
                                  go_wp2_with fail
                                  clear hwa1 hwa2
                                  refine ⟨⟨j + 1, by go_num, by omega, ?_, HO.out.below (below_drewL8 _ _)⟩, by simp [intOf]; omega⟩
                                  rw [HANY.out, hF]
                                  simp [hcy]
                              · go_wp2_with fail
                                go_quiet (fail)
                                refine block_normal ?_
                                go_at_K
                                go_wp2_with fail
                                clear hwa1 hwa2
                                refine ⟨⟨j + 1, by go_num, by omega, ?_, HO.out.below (below_drewL8 _ _)⟩, by simp [intOf]; omega⟩
                                rw [HANY.out, hF]
                                rfl
                            · have hji : ¬ (j : Int) < T.length := by omega
                              have hany : (T.take j).any (· == y) = true := by
                                rw [List.take_of_length_le (by omega)]
                                exact List.any_eq_true.2 ⟨y, HYT.out, by simp⟩
                              rw [hany]
                              have F4 : Hid (Las w wr b g E' V R mm 32) := o
                              clear o hany
                              go_wp2_with fail
                              clear hcx
                              go_loopw [22, 24] (fun fv yv wr => ∃ z : Nat, yv = .int .i64 (z : Nat) ∧ 1 ≤ z ∧ z ≤ 256 ∧ fv = .bool true ∧ Las w wr b g E' V R mm 32) (fun _ yv _ => 256 - (intOf yv).toNat)
                              case atStart => exact ⟨1, rfl, by omega, by omega, rfl, F4.out⟩
                              case round =>
                                clear F4
                                obtain ⟨z, rfl, hz1, hz2, rfl, o⟩ := hrel
                                have HO : Hid (Las w wr b g E' V R mm 32) := o
                                clear o
                                by_cases hz : z < 256
                                · have hzi : (z : Int) < 256 := by omega
                                  obtain ⟨u, hu⟩ : ∃ u, u = a0 + z := ⟨_, rfl⟩
                                  have hus : u < S.size := by have := HX.out.2; omega
                                  have hui : (a0 : Int) + (z : Int) = (u : Int) := by omega
                                  have husi : (u : Int) < 1024 := by omega
                                  have hSu : (S[u]'hus) = y := by have := HALL.out z (by omega) hz; subst hu; exact this
                                  have hu2 : u < 2000 := by omega
                                  have ha2 : a0 < 2000 := by omega
                                  obtain ⟨hwa1, hwa2⟩ := wrap_small a0 ha2
                                  obtain ⟨hwu1, hwu2⟩ := wrap_small u hu2
                                  clear hu
                                  go_wp2_with fail
                                  go_quiet (fail)
                                  refine block_normal ?_
                                  go_at_K
                                  go_wp2_with fail
                                  clear hwa1 hwa2 hwu1 hwu2
                                  rw [wrap_one z (by omega)]
                                  exact ⟨⟨z + 1, by go_num, by omega, by omega, rfl, HO.out.below (below_drewL8 _ _)⟩, by simp [intOf]; omega⟩
                                · have hzi : ¬ (z : Int) < 256 := by omega
                                  go_wp2_with fail
                                  exact ⟨⟨k + 1, by go_num, by omega, HO.out⟩, by simp [intOf]; omega⟩
                        · have hki : ¬ (k : Int) < 4 := by omega
                          go_wp2_with fail
                          exact ⟨⟨q + 1, N' + 1, E', by go_num, by omega, by omega, o, F2.out.2⟩, by simp [intOf]; omega⟩
                    · have hqi : ¬ (q : Int) < 8 := by omega
                      go_wp2_with fail
                      go_ret
                      exact ⟨rfl, o.own.all⟩
                rcases (by omega : ¬ (i' : Int) < n2 ∨ ((i' : Int) < n2 ∧ ¬ (i' : Int) < 30)) with hia | ⟨hia, hib⟩
                all_goals
                  clear hK2
                  go_wp2_with fail
                  exact HK2 _ _ _ _
          rcases (by omega : ¬ (i : Int) < n ∨ ((i : Int) < n ∧ ¬ (i : Int) < 30)) with hia | ⟨hia, hib⟩
          all_goals
            clear hK
            go_wp2_with fail
            exact HK _ _ _ _
end Go.Proofs.Ytpffhdeklnaibaa
