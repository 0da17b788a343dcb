/-
  Count, Of and Has of masks: the program's, the document's.
-/
import Derived.Test.YtbidoangdnmjfaaDoorMNibW
namespace Go.Proofs.YtbidoangdnmjfaaDoor
open Go Go.RowKit
attribute [local go_sem] Oper.semAt_some

theorem holds_keptM {A B : World} {row : Option Nat} {Bd : Nat} (hg : A.grownBy B row) (hr : ∀ r, row = some r → Bd ≤ r ∧ ∃ o : Obj, A.heap[r]? = some o ∧ o.isCells = false) {b : Nat} {t : TypeId} {cs : Array Value} (h : Holds A b t cs) : Holds B b t cs := by
  unfold Holds at *
  refine (hg.block b (Array.getElem?_eq_some_iff.1 h).1 (fun e => ?_)).trans h
  obtain ⟨_, o, ho, hc⟩ := hr b e.symm
  rw [h] at ho; cases ho; cases hc
theorem below_keptM {A B w : World} {row : Option Nat} {Bd n : Nat} (hg : A.grownBy B row) (hr : ∀ r, row = some r → Bd ≤ r ∧ ∃ o : Obj, A.heap[r]? = some o ∧ o.isCells = false) (hn : n ≤ Bd) (hw : n ≤ w.heap.size) (h : Below n w A) : Below n w B :=
  h.grown hg (Nat.le_trans hw h.size) (fun k e => Nat.le_trans hn (hr k e).1)
theorem nibs_len (m : Nat) : (nibs m).length ≤ 16 := cntM_le m
theorem DbAt.lt {w : World} (h : DbAt w) : 0 < w.heap.size := World.block_lt_of_cell? w _ (h 0 (by decide))

set_option maxRecDepth 8000 in
set_option maxHeartbeats 1000000 in
theorem count_any {m : Nat} (hm : m < 65536) {w : World} (hT : DbAt w) : Calls Tryd.prog 20 #[.int .u16 (m : Nat)] w fun e w' => e = .returned (.int .i64 (cntM m : Nat)) ∧ Below w.heap.size w w' := by
  refine calls_of_wp_marks Tryd.func20 rfl ?_
  simp only [Tryd.ntmps20, List.size_toArray, List.length_cons, List.length_nil, Nat.reduceAdd, Nat.reduceSub, Array.replicate_succ, Array.replicate_zero, List.push_toArray, List.append_toArray, List.nil_append, List.cons_append]
  obtain ⟨g, hg⟩ : ∃ g, w.heap.size = g := ⟨_, rfl⟩
  obtain ⟨W0, hW⟩ : ∃ W0, World.alloc w (.cells #[.int .i64 0] 3) = W0 := ⟨_, rfl⟩
  have h1 : Holds W0 g 3 #[.int .i64 0] := by rw [← hW, ← hg]; exact Holds.new _ _ _
  have hB : Below w.heap.size w W0 := by rw [← hW]; exact below_new1 _ _
  obtain ⟨W1, hW1⟩ : ∃ W1, W0.setCell ⟨g, 0, none⟩ (.int .i64 0) = W1 := ⟨_, rfl⟩
  have h1b : Holds W1 g 3 #[.int .i64 0] := by rw [← hW1]; exact h1.set 0 _
  have hB1 : Below w.heap.size w W1 := Only.fresh hB (by rw [← hW1]; exact (Only.refl g W0).set 0 _) (by omega)
  have hc := h1.cell 0
  have hf := h1.frozen 0
  have hn := nibbles_any (m := m) W1
  have hT1 := hT.below hB1
  go_wp2_with (go_at_call 28; refine hn.mono ?_; rintro e w2 ⟨rfl, hbx, hB2⟩)
  have h2 := below_holds hB2 h1b
  have hs1 : g < W1.heap.size := h1b.lt
  have hT2 := hT1.below hB2
  have hs2 := hbx.lt
  have hBw := below_new hB1 hB2
  have HTl : Hid (0 < g) := by rw [← hg]; exact hT.lt
  refine wp_rangeSeq rfl (enters_of Tryd.func37 (by kernel_rfl) rfl) (nibs_seq hm hbx hT2) (Below.refl _ _) (fun k hk => by rcases hk with rfl | rfl; exact hs2; exact hT2.lt)
    (fun pre W => Holds W g 3 #[.int .i64 (pre.length : Nat)] ∧ Below w.heap.size w W ∧ w2.heap.size ≤ W.heap.size) (fun _ _ _ => False)
    (fun s A B row hs hg' hr => ⟨holds_keptM hg' hr hs.1, below_keptM hg' hr (by omega) (Nat.le_refl _) hs.2.1, Nat.le_trans hs.2.2 hg'.size⟩)
    (fun c s A B row hs hg' hr => hs) ⟨h2, hBw, Nat.le_refl _⟩
    (fun x => { tmps := #[.int .u16 (m : Nat), undef, .int .i64 0, .pointer (some ⟨g, 0, none⟩), .int .u16 (m : Nat), .func (.func 37) #[] #[.pointer (some ⟨W1.heap.size, 0, none⟩)], .int .i64 (x : Nat), undef, undef, undef], defers := [] }) ?assign ?body ?done ?stop
  case assign =>
    intro l x W K hK
    gi_wp2
    simpa using hK
  case body =>
    rintro l pre x rest W hL hsz ⟨hv, gB, gs⟩
    have hlen : pre.length < 16 := by
      have e : (nibs m).length = pre.length + (rest.length + 1) := by rw [hL]; simp
      have := nibs_len m
      omega
    have hc := hv.cell 0
    have hf := hv.frozen 0
    simp at hc
    obtain ⟨n, hn⟩ : ∃ n, pre.length = n := ⟨_, rfl⟩
    have HN : Hid (pre.length = n) := hn
    rw [hn] at hc hv hlen
    clear hL hn hbx h2 h1 h1b hT hT1 hT2
    have hni : (n : Int) < 16 := by omega
    have hset := hv.set 0 (.int .i64 ((n : Int) + 1))
    gi_wp2
    refine ⟨keepsFrom_only ((Only.refl g W).set 0 _) (by omega), KeepB.only ((Only.refl g W).set 0 _) ?_ ?_, ?_, ?_, ?_⟩
    · rintro (q | q)
      · omega
      · have := HTl.out; omega
    · rintro k (rfl | rfl)
      · omega
      · have := HTl.out; omega
    · rw [List.length_append, HN.out]
      simpa using hset
    · exact gB.setCell (p := ⟨g, 0, none⟩) (by show w.heap.size ≤ g; omega) _
    · simpa using gs
  case done =>
    rintro D W hD ⟨hv, gB, gs⟩ hK
    have hc := hv.cell 0
    simp at hc
    have HC : Hid ((nibs m).length = cntM m) := rfl
    clear hbx h2 h1 h1b hT hT1 hT2
    go_wp2_with fail
    refine leaves_marks (Marks.one (B := w.heap.size) (by omega) hK) fun w' hw' => ⟨_, results_tmp rfl _ _ _, rfl, gB.trans hw'.below⟩
  case stop =>
    rintro D c pre x rest W _ _ h _
    exact h.elim

/-- A row of numbers in memory. -/
def IntsM (w : World) (v : Value) (l : List Int) : Prop :=
  (l = [] ∧ ∃ p c, v = .slice p 0 c) ∨ ∃ b o c, v = .slice (some ⟨b, o, none⟩) l.length c ∧ ∀ i x, l[i]? = some x → w.cell? ⟨b, o + i, none⟩ = some (.int .i64 x)
theorem IntsM.below {w w' : World} {v : Value} {l : List Int} (h : IntsM w v l) (hb : Below w.heap.size w w') : IntsM w' v l := by
  rcases h with h | ⟨b, o, c, h1, h2⟩
  · exact .inl h
  · exact .inr ⟨b, o, c, h1, fun i x hx => (hb.cell (p := ⟨b, o + i, none⟩) (World.block_lt_of_cell? w _ (h2 i x hx))).trans (h2 i x hx)⟩
theorem IntsM.shape {w : World} {v : Value} {l : List Int} (h : IntsM w v l) : ∃ p c, v = .slice p l.length c := by
  rcases h with ⟨rfl, p, c, rfl⟩ | ⟨b, o, c, rfl, _⟩
  · exact ⟨p, c, rfl⟩
  · exact ⟨_, c, rfl⟩
theorem IntsM.at {w : World} {p : Option Addr} {n c : Nat} {l : List Int} (h : IntsM w (.slice p n c) l) {i : Nat} {x : Int} (hx : l[i]? = some x) : ∃ b o, p = some ⟨b, o, none⟩ ∧ n = l.length ∧ w.cell? ⟨b, o + i, none⟩ = some (.int .i64 x) := by
  rcases h with ⟨rfl, _⟩ | ⟨b, o, c', e, h2⟩
  · simp at hx
  · injection e with e1 e2 e3
    subst e1 e2 e3
    exact ⟨b, o, rfl, rfl, h2 i x hx⟩
theorem IntsM.one {w : World} {b : Nat} {t : TypeId} {x : Int} (h : Holds w b t #[.int .i64 x]) : IntsM w (.slice (some ⟨b, 0, none⟩) 1 1) [x] := .inr ⟨b, 0, 1, rfl, fun i y hy => by
  match i with
  | 0 => simp at hy; rw [← hy]; exact h.cell 0
  | k + 1 => simp at hy⟩
theorem ofM_take {l : List Int} {k : Nat} {x : Int} (h : l[k]? = some x) : ofM (l.take (k + 1)) = orN (ofM (l.take k)) x := by
  unfold ofM
  rw [List.take_add_one, h, List.foldl_append]
  rfl
theorem or_pow {m k : Nat} (hm : m < 65536) (hk : k < 16) : bits BinOp.or IntKind.u16 (m : Int) (2 ^ k % 65536) = ((orN m (k : Int) : Nat) : Int) := by
  have h2 := pow_lt16 hk
  have e2 : ((2 : Int) ^ k) = ((2 ^ k : Nat) : Int) := by simp
  have e3 : orN m (k : Int) = m ||| 2 ^ k := by
    unfold orN
    rw [if_pos (by omega)]
    rfl
  rw [e2, e3, Int.emod_eq_of_lt (Int.natCast_nonneg _) (by omega), or_u16 _ _ hm h2]
set_option maxRecDepth 8000 in
theorem of_any {w : World} {v : Value} {l : List Int} (hv : IntsM w v l) (hl : l.length ≤ 9223372036854775807) : Calls Tryd.prog 18 #[v] w fun e w' => e = .returned (.int .u16 (ofM l : Nat)) ∧ w' = w := by
  obtain ⟨p, c, rfl⟩ := hv.shape
  obtain ⟨n, hn⟩ : ∃ n, l.length = n := ⟨_, rfl⟩
  have HN : Hid (l.length = n) := hn
  rw [hn] at hv hl ⊢
  clear hn
  have hni : (n : Int) ≤ 9223372036854775807 := by omega
  obtain ⟨S, hS⟩ : ∃ S : Nat → Nat, ∀ k, S k = ofM (l.take k) := ⟨_, fun _ => rfl⟩
  have hSk : ∀ k x, l[k]? = some x → S (k + 1) = orN (S k) x := fun k x h => by rw [hS, hS, ofM_take h]
  have hSl : ∀ k, S k < 65536 := fun k => by rw [hS]; exact ofM_lt _
  have hS0 : S 0 = 0 := by rw [hS]; rfl
  have hSn : S n = ofM l := by rw [hS, ← HN.out, List.take_length]
  rw [← hSn]
  clear hSn hS
  go_enter Tryd.func18, Tryd.ntmps18
  go_wp2_with fail
  go_loopw [3, 8] (fun x y wr => ∃ k : Nat, y = .int .i64 (k : Nat) ∧ k ≤ n ∧ x = .int .u16 (S k : Nat) ∧ wr = w) (fun _ y _ => n - (intOf y).toNat)
  case atStart => exact ⟨0, rfl, Nat.zero_le _, by rw [hS0]; rfl, rfl⟩
  case round =>
    obtain ⟨k, rfl, hk, rfl, hww⟩ := hrel
    have hww' := hww.symm
    clear hww
    subst hww'
    by_cases hkn : k < n
    · have hki : (k : Int) < n := by omega
      have hk0 : (0 : Int) ≤ k := by omega
      obtain ⟨x, hx⟩ : ∃ x, l[k]? = some x := ⟨_, List.getElem?_eq_getElem (by have := HN.out; omega)⟩
      obtain ⟨b, o, rfl, hnn, hc⟩ := hv.at hx
      clear hnn hv
      have HT : Hid (S (k + 1) = orN (S k) x) := hSk k x hx
      have hm := hSl k
      clear hSk hSl hS0 hx
      generalize S k = m at HT hm ⊢
      by_cases h0 : 0 ≤ x
      · by_cases h16 : x < 16
        · obtain ⟨q, rfl⟩ := Int.eq_ofNat_of_zero_le h0
          have hq : q < 16 := by omega
          have hqi : (q : Int) < 16 := by omega
          have hor := or_pow hm hq
          clear h16 h0
          go_wp2_with fail
          go_roundw
          case rel => exact ⟨k + 1, by go_num, by omega, by rw [HT.out, ← hor]; simp [wrap_u16], trivial⟩
          case measure => simp [intOf]; omega
        · have h16' : ¬ x < 16 := h16
          have HT2 : Hid (S (k + 1) = m) := by
            show S (k + 1) = m
            rw [HT.out]; unfold orN; rw [if_neg (by omega)]
          go_wp2_with fail
          go_roundw
          case rel => exact ⟨k + 1, by go_num, by omega, by rw [HT2.out], trivial⟩
          case measure => simp [intOf]; omega
      · have h0' : ¬ 0 ≤ x := h0
        have HT2 : Hid (S (k + 1) = m) := by
          show S (k + 1) = m
          rw [HT.out]; unfold orN; rw [if_neg (by omega)]
        go_wp2_with fail
        go_roundw
        case rel => exact ⟨k + 1, by go_num, by omega, by rw [HT2.out], trivial⟩
        case measure => simp [intOf]; omega
    · have hki : ¬ (k : Int) < n := by omega
      obtain rfl : k = n := by omega
      go_wp2_with fail
      go_ret
      exact ⟨rfl, rfl⟩
theorem has_ne (m : Nat) (hm : m < 65536) (n : Int) : ((bits BinOp.and IntKind.u16 (m : Int) (ofM [n] : Nat) : Int) == 0) = !hasM m n := by
  rw [and_u16 _ _ hm (ofM_lt _), ← has_and]
  rw [Bool.eq_iff_iff]
  simp
set_option maxRecDepth 8000 in
theorem mhas_any {m : Nat} (hm : m < 65536) (n : Int) (w : World) : Calls Tryd.prog 14 #[.int .u16 (m : Nat), .int .i64 n] w fun e w' => e = .returned (.bool (hasM m n)) ∧ Below w.heap.size w w' := by
  obtain ⟨W0, hW⟩ : ∃ W0, World.alloc w (.cells #[.int .i64 n] 3) = W0 := ⟨_, rfl⟩
  have h1 : Holds W0 w.heap.size 3 #[.int .i64 n] := by rw [← hW]; exact Holds.new _ _ _
  have hB : Below w.heap.size w W0 := by rw [← hW]; exact below_new1 _ _
  have ho := of_any (IntsM.one h1) (by simp)
  have hne := has_ne m hm n
  generalize hasM m n = r at hne ⊢
  generalize ofM [n] = q at hne ho
  generalize hx : bits BinOp.and IntKind.u16 (m : Int) (q : Int) = x at hne
  have hne2 : (x != 0) = r := by rw [bne, hne, Bool.not_not]
  go_enter Tryd.func14, Tryd.ntmps14
  go_wp2_with (go_at_call 18; refine ho.mono ?_; rintro e w1 ⟨rfl, hw1⟩; subst hw1)
  go_ret
  exact ⟨by rw [← hne2]; rfl, hB⟩
set_option maxRecDepth 8000 in
theorem qhas_any {m : Nat} (hm : m < 65536) (n : Int) (w : World) : Calls Tryd.prog 15 #[.int .u16 (m : Nat), .int .i64 n] w fun e w' => e = .returned (.bool (hasM m n)) ∧ w' = w := by
  by_cases h0 : 0 ≤ n
  · by_cases h16 : n < 16
    · obtain ⟨q, rfl⟩ := Int.eq_ofNat_of_zero_le h0
      have hq : q < 16 := by omega
      have hqi : (q : Int) < 16 := by omega
      have hd : m / 2 ^ q < 65536 := Nat.lt_of_le_of_lt (Nat.div_le_self _ _) hm
      have hb : bits BinOp.and IntKind.u16 ((m : Int) / 2 ^ q) 1 = ((m / 2 ^ q % 2 : Nat) : Int) := by
        have e : ((m : Int) / 2 ^ q) = ((m / 2 ^ q : Nat) : Int) := by simp
        rw [e, show (1 : Int) = ((1 : Nat) : Int) from rfl, and_u16 _ _ hd (by decide), Nat.and_one_is_mod]
      have HR : Hid (hasM m (q : Int) = (((m / 2 ^ q % 2 : Nat) : Int) == 1)) := by
        show _ = _
        rw [hasM_nat m q hq, Nat.testBit_eq_decide_div_mod_eq]
        generalize m / 2 ^ q % 2 = z
        rw [Bool.eq_iff_iff, decide_eq_true_eq, beq_iff_eq]
        omega
      generalize m / 2 ^ q % 2 = z at hb HR
      clear h16 h0 hd
      go_enter Tryd.func15, Tryd.ntmps15
      go_wp2_with fail
      go_ret
      exact ⟨by rw [HR.out]; rfl, rfl⟩
    · have h16' : ¬ n < 16 := h16
      rw [hasM_no (by omega)]
      go_enter Tryd.func15, Tryd.ntmps15
      go_wp2_with fail
      go_ret
      exact ⟨rfl, rfl⟩
  · have h0' : ¬ 0 ≤ n := h0
    rw [hasM_no (by omega)]
    go_enter Tryd.func15, Tryd.ntmps15
    go_wp2_with fail
    go_ret
    exact ⟨rfl, rfl⟩
end Go.Proofs.YtbidoangdnmjfaaDoor
