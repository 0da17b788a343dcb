/-
  Texts of this claim, put together.
-/
import Derived.Test.YtadpopjhhanapaaJWriteR
/-
  Rows of things of bounded size; rows of writes of one's own.
-/
namespace Go.Proofs.Ytadpopjhhanapaa
open Go Go.RowKit

def Row.small (m : Nat) : Row → Prop
  | .nil => True
  | .item _ s i r => s.length ≤ m ∧ i.len ≤ m ∧ i.small m ∧ r.small m
theorem things_small {N : Nat} : ∀ (n : Nat) (most : Nat) (s : List UInt8), s.length ≤ n → n ≤ N → ∀ r, things most s = some r → r.small N := by
  intro n
  induction n with
  | zero =>
    intro most s h _ r hr
    have : s = [] := List.eq_nil_of_length_eq_zero (by omega)
    subst this
    rw [things_nil] at hr
    cases hr; trivial
  | succ n ih =>
    intro most s h hn r hr
    by_cases h0 : s = []
    · subst h0; rw [things_nil] at hr; cases hr; trivial
    · cases hs : split s with
      | none => rw [things_none h0 hs] at hr; cases hr
      | some q =>
        obtain ⟨p, l, t⟩ := q
        obtain ⟨a1, a2, a3⟩ := split_len hs
        cases most with
        | zero => rw [things_deep h0] at hr; cases hr
        | succ most =>
          cases l with
          | false =>
            rw [things_text h0 hs] at hr
            obtain ⟨q, hq, rfl⟩ := Option.map_eq_some_iff.1 hr
            exact ⟨by omega, Nat.zero_le _, trivial, ih (most + 1) t (by omega) (by omega) q hq⟩
          | true =>
            have a4 := a3 rfl
            rw [things_list h0 hs] at hr
            cases hp : things most p with
            | none => rw [hp] at hr; cases hr
            | some q =>
              rw [hp] at hr
              obtain ⟨q2, hq, rfl⟩ := Option.map_eq_some_iff.1 hr
              have := things_len p.length p (Nat.le_refl _) q hp
              exact ⟨Nat.zero_le _, by omega, ih most p (by omega) (by omega) q hp, ih (most + 1) t (by omega) (by omega) q2 hq⟩
theorem Row.small_nth {m : Nat} : ∀ {r : Row}, r.small m → ∀ k, (txtAt r k).size ≤ m ∧ (rowAt r k).len ≤ m ∧ (rowAt r k).small m
  | .nil, _, k => ⟨by unfold txtAt Row.nth; exact Nat.zero_le _, by unfold rowAt Row.nth; exact Nat.zero_le _, by unfold rowAt Row.nth; trivial⟩
  | .item b s i r, h, 0 => ⟨h.1, h.2.1, h.2.2.1⟩
  | .item b s i r, h, k + 1 => Row.small_nth (r := r) h.2.2.2 k

def wcells (L : List Wr) : List Value := L.flatMap fun x => (wrC x).toList
/-- A row of writes of the call's own; their slots lie in blocks of the call's too. -/
def OwnWr (w : World) (base : Nat) (v : Value) (L : List Wr) : Prop := w.ownsRow base 38 7 v L.length (wcells L) ∧ ∀ x ∈ L, WrOk w x ∧ ∀ b, x.s.ownBlock = some b → base ≤ b ∧ b < w.heap.size ∧ some b ≠ v.ownBlock
theorem wcells_app (L K : List Wr) : wcells (L ++ K) = wcells L ++ wcells K := by unfold wcells; rw [List.flatMap_append]
theorem wcells_get : ∀ (L : List Wr) (i : Nat) (x : Wr), L[i]? = some x → ∀ j, j < 7 → (wcells L)[i * 7 + j]? = (wrC x).toList[j]?
  | a :: l, 0, c, h, j, hj => by
    simp at h
    subst h
    have e : wcells (a :: l) = (wrC a).toList ++ wcells l := rfl
    rw [e, List.getElem?_append_left (by simp [wrC]; omega)]
    simp
  | a :: l, i + 1, c, h, j, hj => by
    have ih := wcells_get l i c (by simpa using h) j hj
    have e : wcells (a :: l) = (wrC a).toList ++ wcells l := rfl
    have e4 : (wrC a).toList.length = 7 := rfl
    rw [e, List.getElem?_append_right (by omega), e4, show (i + 1) * 7 + j - 7 = i * 7 + j by omega]
    exact ih
section
variable {w w' : World} {v : Value} {base : Nat} {L : List Wr}
theorem OwnWr.at (h : OwnWr w base v L) : WritesAt w v L := by
  refine ⟨fun x hx => (h.2 x hx).1, ?_⟩
  rcases h.1.2 with ⟨rfl, h0⟩ | ⟨g, cap, cur, rfl, h1, h2, h3, h4, h5, h6⟩
  · exact .inl ⟨List.eq_nil_of_length_eq_zero h0, none, 0, rfl⟩
  · refine .inr ⟨g, 0, cap, rfl, h3, fun i x hx => ?_⟩
    have hi := (List.getElem?_eq_some_iff.1 hx).1
    have key : ∀ j u, j < 7 → (wrC x).toList[j]? = some u → w.cell? ⟨g, i * 7 + j, none⟩ = some u := fun j u hj hu => by
      have q1 := wcells_get L i x hx j hj
      rw [hu, ← h6] at q1
      rw [List.getElem?_take, if_pos (by omega)] at q1
      exact (cell_of_row w g _ cur _ (0, 0) h2).trans (by simpa using q1)
    rw [Nat.zero_add]
    exact ⟨key 0 _ (by omega) rfl, key 1 _ (by omega) rfl, key 2 _ (by omega) rfl, key 3 _ (by omega) rfl, key 4 _ (by omega) rfl, key 5 _ (by omega) rfl, key 6 _ (by omega) rfl⟩
theorem OwnWr.below0 (h : OwnWr w base v L) (hb : Below w.heap.size w w') : OwnWr w' base v L := by
  refine ⟨?_, fun x hx => ⟨(h.2 x hx).1.below hb, fun b e => ⟨((h.2 x hx).2 b e).1, Nat.lt_of_lt_of_le ((h.2 x hx).2 b e).2.1 hb.size, ((h.2 x hx).2 b e).2.2⟩⟩⟩
  refine ⟨h.1.1, ?_⟩
  rcases h.1.2 with q | ⟨g, cap, cur, rfl, h1, h2, h3⟩
  · exact .inl q
  · exact .inr ⟨g, cap, cur, rfl, h1, (hb.block g (Array.getElem?_eq_some_iff.1 h2).1).trans h2, h3⟩
theorem OwnWr.nil (w : World) (base : Nat) : OwnWr w base (.slice none 0 0) [] := ⟨World.ownsRow_nil _ _ _ _, by simp⟩
theorem OwnWr.lt (h : OwnWr w base v L) : ∀ k, v.ownBlock = some k → base ≤ k ∧ k < w.heap.size := fun k hk => World.ownsRow.lt h.1 k hk
theorem OwnWr.kept0 (h : OwnWr w base v L) (hk : ∀ b, base ≤ b → b < w.heap.size → w'.heap[b]? = w.heap[b]?) (hs : w.heap.size ≤ w'.heap.size) : OwnWr w' base v L := by
  refine ⟨⟨h.1.1, ?_⟩, fun x hx => ⟨⟨(h.2 x hx).1.1.kept fun b hb => hk b ((h.2 x hx).2 b hb).1 ((h.2 x hx).2 b hb).2.1, (h.2 x hx).1.2⟩, fun b e => ⟨((h.2 x hx).2 b e).1, Nat.lt_of_lt_of_le ((h.2 x hx).2 b e).2.1 hs, ((h.2 x hx).2 b e).2.2⟩⟩⟩
  rcases h.1.2 with q | ⟨g, cap, cur, rfl, h1, h2, h3⟩
  · exact .inl q
  · exact .inr ⟨g, cap, cur, rfl, h1, (hk g h1 (Array.getElem?_eq_some_iff.1 h2).1).trans h2, h3⟩
theorem OwnWr.mono {b' : Nat} (h : OwnWr w base v L) (hb : b' ≤ base) : OwnWr w b' v L := by
  refine ⟨⟨h.1.1, ?_⟩, fun x hx => ⟨(h.2 x hx).1, fun b e => ⟨Nat.le_trans hb ((h.2 x hx).2 b e).1, ((h.2 x hx).2 b e).2⟩⟩⟩
  rcases h.1.2 with q | ⟨g, cap, cur, rfl, h1, h2, h3⟩
  · exact .inl q
  · exact .inr ⟨g, cap, cur, rfl, Nat.le_trans hb h1, h2, h3⟩
/-- One more behind it. -/
theorem OwnWr.snoc {v' : Value} {x : Wr} (h : OwnWr w base v L) (hx : WrOk w x ∧ ∀ b, x.s.ownBlock = some b → base ≤ b ∧ b < w.heap.size ∧ some b ≠ v.ownBlock)
    (hv : w'.ownsRow base 38 7 v' (L.length + 1) (wcells L ++ (wrC x).toList)) (hg : w.grownBy w' v.ownBlock) (hw : v'.ownBlock = v.ownBlock ∨ v'.ownBlock = some w.heap.size) : OwnWr w' base v' (L ++ [x]) := by
  refine ⟨by rw [List.length_append, wcells_app]; simpa [wcells] using hv, fun y hy => ?_⟩
  have hy2 : WrOk w y ∧ ∀ b, y.s.ownBlock = some b → base ≤ b ∧ b < w.heap.size ∧ some b ≠ v.ownBlock := by
    rcases List.mem_append.1 hy with hy | hy
    · exact h.2 y hy
    · rw [List.mem_singleton.1 hy]; exact hx
  refine ⟨⟨hy2.1.1.kept fun b hb => hg.block b (hy2.2 b hb).2.1 (hy2.2 b hb).2.2, hy2.1.2⟩, fun b hb => ?_⟩
  have h1 := hy2.2 b hb
  refine ⟨h1.1, Nat.lt_of_lt_of_le h1.2.1 hg.size, ?_⟩
  rcases hw with q | q
  · rw [q]; exact h1.2.2
  · rw [q]; intro e; injection e with e; omega
end
end Go.Proofs.Ytadpopjhhanapaa
/-
  writeOf, and each over things that makes writes.
-/
namespace Go.Proofs.Ytadpopjhhanapaa
open Go Go.RowKit

theorem SlotsAt.shape3 {w : World} {v : Value} {L : List Sl} (h : SlotsAt w v L) : ∃ p n c, v = .slice p n c := by
  obtain ⟨p, c, h⟩ := h.shape
  exact ⟨p, _, c, h⟩
theorem writeR_with (i : Row) (v v' : Value) : ({ writeR i v with s := v' } : Wr) = writeR i v' := by
  unfold writeR
  split <;> rfl
theorem writeR_lt (i : Row) (v : Value) : (writeR i v).n < 18446744073709551616 := by
  unfold writeR
  split
  · exact uintV_lt _
  · exact (by decide : 0 < 18446744073709551616)
theorem writeR_no {i : Row} (h : ¬ i.len = 6) (v : Value) : writeR i v = { wr0 with s := v } := by unfold writeR; rw [if_neg h]
theorem writeR_s (i : Row) (v : Value) : (writeR i v).s = v := by unfold writeR; split <;> rfl
/-- Stored elsewhere, it stays what it is. -/
theorem WPost.stored {w w1 w2 w3 : World} {i : Row} {v' : Value} {g : Nat} (hat : SlotsAt w2 v' (writeR i v').L) (hlt : ∀ b, v'.ownBlock = some b → w1.heap.size ≤ b ∧ b < w2.heap.size) (ho : Only g w2 w3) (hg : g < w1.heap.size) (hw : w.heap.size ≤ w1.heap.size) :
    WPost w w3 i (.returned (wra (writeR i v'))) := by
  refine ⟨v', rfl, hat.kept fun b hb => ho.block b (hlt b hb).2 (by have := (hlt b hb).1; omega), fun b hb => ⟨by have := (hlt b hb).1; omega, Nat.lt_of_lt_of_le (hlt b hb).2 ho.size⟩⟩
set_option maxRecDepth 8000 in
set_option maxHeartbeats 2000000 in
theorem madew_any {w : World} {i : Row} {a : Option Addr} {c : Nat} (b : Bool) (s : ByteArray) (hl : LiesB w i a) (hi : i.small 1000000) : Calls Try.prog 67 #[.agg #[.bool b, .string s, .slice a i.len c], .int .i64 6, .func (.func 68) #[] #[]] w fun e w' => WPost w w' i e ∧ Below w.heap.size w w' := by
  obtain ⟨W0, g, hW0, hg, hB0, c0, c1, c2⟩ := box_item w b s (.slice a i.len c)
  obtain ⟨W1, g1, hW1, hg1, hB1, hz⟩ := box_z W0 38 #[.string ⟨#[]⟩, .bool false, .bool false, .int .u64 0, .string ⟨#[]⟩, .string ⟨#[]⟩, .slice none 0 0]
  have d2 := keep_cell hB1 c2
  have HB : Hid (Below w.heap.size w W1) := below_new hB0 hB1
  have HG : Hid (w.heap.size ≤ g1) := by show _ ≤ _; rw [← hg1]; exact hB0.size
  have HS : Hid (i.len = 6 → Calls Try.prog 68 #[.slice a i.len c] W1 fun e w' => WPost W1 w' i e ∧ Below W1.heap.size W1 w') := fun h => writeof1_any ((hl.below hB0).below hB1) h (Row.small_nth hi 5).2.1 (Row.small_nth hi 2).1
  have HZ : Hid (¬ i.len = 6 → ∀ v, writeR i v = { wr0 with s := v }) := fun h => writeR_no h
  have HH : Hid (Holds W1 g1 38 #[.string ⟨#[]⟩, .bool false, .bool false, .int .u64 0, .string ⟨#[]⟩, .string ⟨#[]⟩, .slice none 0 0]) := hz
  clear hB0 hB1 c0 c1 c2 hz hl hi
  by_cases h6 : i.len = 6
  · have HS2 : Hid (Calls Try.prog 68 #[.slice a 6 c] W1 fun e w' => WPost W1 w' i e ∧ Below W1.heap.size W1 w') := by have := HS.out h6; rw [h6] at this; exact this
    rw [h6] at d2 hW0 ⊢
    clear HS HZ h6
    go_enter Try.func67, Try.ntmps67
    go_wp2_with (first
      | (go_at_call 68; refine HS2.out.mono ?_; rintro e w2 ⟨⟨v2, rfl, hat, hlt⟩, hB2⟩
         obtain ⟨p2, n2, k2, rfl⟩ := hat.shape3)
      | (refine wpList_storeH rfl 38 _ _ rfl g1 (wrC (writeR i (.slice p2 n2 k2))) rfl rfl 38 _ (below_holds hB2 HH.out) infoWrite2 rfl (by simp [wrC, writeR_s, Value.oneCell']) ?_; intro w3 h3 o3 z3)
      | fail)
    exact bodyPost_ret (results_cellH (p := 6) rfl _ w3 g1 38 _ _ rfl h3 Try.underlying38 rfl infoWrite2) rfl ⟨WPost.stored hat hlt o3 HH.out.lt HB.out.size, Only.fresh (below_new HB.out hB2) o3 HG.out⟩
  · have hni : ¬ (i.len : Int) = 6 := by omega
    have hx := HZ.out h6
    have hP : ∀ w', WPost w w' i (.returned (wra (writeR i (.slice none 0 0)))) := fun w' => ⟨_, rfl, by rw [hx]; exact SlotsAt.nil _ _ _, by intro b hb; cases hb⟩
    rw [hx] at hP
    have HP : Hid (∀ w', WPost w w' i (.returned (.agg #[.string ⟨#[]⟩, .bool false, .bool false, .int .u64 0, .string ⟨#[]⟩, .string ⟨#[]⟩, .slice none 0 0]))) := hP
    clear HS HZ h6 hx hP
    generalize i.len = n at *
    obtain ⟨W2, g2, hW2, hg2, hB2, hz2⟩ := box_z W1 38 #[.string ⟨#[]⟩, .bool false, .bool false, .int .u64 0, .string ⟨#[]⟩, .string ⟨#[]⟩, .slice none 0 0]
    have H2 : Hid (Below W1.heap.size W1 W2) := hB2
    have HZ2 : Hid (Holds W2 g2 38 #[.string ⟨#[]⟩, .bool false, .bool false, .int .u64 0, .string ⟨#[]⟩, .string ⟨#[]⟩, .slice none 0 0]) := hz2
    clear hB2 hz2
    go_enter Try.func67, Try.ntmps67
    go_wp2_with (first
      | (refine wpList_loadH rfl 38 _ rfl _ rfl _ _ _ HZ2.out Try.underlying38 rfl infoWrite2 ?_)
      | (refine wpList_storeH rfl 38 _ _ rfl g1 #[.string ⟨#[]⟩, .bool false, .bool false, .int .u64 0, .string ⟨#[]⟩, .string ⟨#[]⟩, .slice none 0 0] rfl rfl 38 _ (below_holds H2.out HH.out) infoWrite2 rfl (by simp [Value.oneCell']) ?_; intro w3 h3 o3 z3)
      | fail)
    exact bodyPost_ret (results_cellH (p := 6) rfl _ w3 g1 38 _ _ rfl h3 Try.underlying38 rfl infoWrite2) rfl ⟨HP.out _, Only.fresh (below_new HB.out H2.out) o3 HG.out⟩
set_option maxRecDepth 8000 in
set_option maxHeartbeats 2000000 in
theorem writeof_any {w : World} {i : Row} {a : Option Addr} {c : Nat} (b : Bool) (s : ByteArray) (hl : LiesB w i a) (hi : i.small 1000000) : Calls Try.prog 48 #[.agg #[.bool b, .string s, .slice a i.len c]] w fun e w' => WPost w w' i e ∧ Below w.heap.size w w' := by
  obtain ⟨W0, g, hW0, hg, hB0, c0, c1, c2⟩ := box_item w b s (.slice a i.len c)
  obtain ⟨W1, g1, hW1, hg1, hB1, hz⟩ := box_z W0 38 #[.string ⟨#[]⟩, .bool false, .bool false, .int .u64 0, .string ⟨#[]⟩, .string ⟨#[]⟩, .slice none 0 0]
  have d0 := keep_cell hB1 c0
  have d1 := keep_cell hB1 c1
  have d2 := keep_cell hB1 c2
  have HB : Hid (Below w.heap.size w W1) := below_new hB0 hB1
  have HG : Hid (w.heap.size ≤ g1) := by show _ ≤ _; rw [← hg1]; exact hB0.size
  have HS : Hid (Calls Try.prog 67 #[.agg #[.bool b, .string s, .slice a i.len c], .int .i64 6, .func (.func 68) #[] #[]] W1 fun e w' => WPost W1 w' i e ∧ Below W1.heap.size W1 w') := madew_any b s ((hl.below hB0).below hB1) hi
  have HH : Hid (Holds W1 g1 38 #[.string ⟨#[]⟩, .bool false, .bool false, .int .u64 0, .string ⟨#[]⟩, .string ⟨#[]⟩, .slice none 0 0]) := hz
  clear hB0 hB1 c0 c1 c2 hz hl hi
  generalize i.len = n at *
  go_enter Try.func48, Try.ntmps48
  go_wp2_with (first
    | (go_at_call 67; refine HS.out.mono ?_; rintro e w2 ⟨⟨v2, rfl, hat, hlt⟩, hB2⟩
       obtain ⟨p2, n2, k2, rfl⟩ := hat.shape3)
    | (refine wpList_storeH rfl 38 _ _ rfl g1 (wrC (writeR i (.slice p2 n2 k2))) rfl rfl 38 _ (below_holds hB2 HH.out) infoWrite2 rfl (by simp [wrC, writeR_s, Value.oneCell']) ?_; intro w3 h3 o3 z3)
    | fail)
  exact bodyPost_ret (results_cellH (p := 2) rfl _ w3 g1 38 _ _ rfl h3 Try.underlying38 rfl infoWrite2) rfl ⟨WPost.stored hat hlt o3 HH.out.lt HB.out.size, Only.fresh (below_new HB.out hB2) o3 HG.out⟩
end Go.Proofs.Ytadpopjhhanapaa
/-
  each over things that makes writes, and blockOf.
-/
namespace Go.Proofs.Ytadpopjhhanapaa
open Go Go.RowKit

theorem news7 (w : World) (ty : TypeId) (a b c d e f g : Value) (j : Nat) (u : Value) (h : [a, b, c, d, e, f, g][j]? = some u) : (w.alloc (.cells #[a, b, c, d, e, f, g] ty)).cell? ((⟨w.heap.size, 0, none⟩ : Addr).add j) = some u := by
  rw [add_plain, Nat.zero_add, World.cell?_alloc_mark]
  simpa using h
theorem bare_writeR (i : Row) (v : Value) : (writeR i v).bare = writeR i (.slice none 0 0) := writeR_with i v _
set_option maxRecDepth 8000 in
set_option maxHeartbeats 4000000 in
theorem eachwr_any {w : World} {r : Row} {a : Option Addr} {c : Nat} (hr : LiesB w r a) (hl : r.len ≤ 1000000) (hsm : r.small 1000000) :
    Calls Try.prog 47 #[.slice a r.len c, .func (.func 48) #[] #[]] w fun e w' => ∃ v' K, e = .returned v' ∧ OwnWr w' w.heap.size v' K ∧ K.map Wr.bare = writesR r ∧ Below w.heap.size w w' := by
  obtain ⟨n, hn⟩ : ∃ n, r.len = n := ⟨_, rfl⟩
  have HN : Hid (r.len = n) := hn
  rw [hn] at hl ⊢
  clear hn
  have hni : (n : Int) ≤ 1000000 := by omega
  go_enter Try.func47, Try.ntmps47
  go_wp2_with fail
  go_loopw [5, 10] (fun x y wr => ∃ (k : Nat) (K : List Wr), y = .int .i64 (k : Nat) ∧ k ≤ n ∧ OwnWr wr w.heap.size x K ∧ K.map Wr.bare = (writesR r).take k ∧ Below w.heap.size w wr) (fun _ y _ => n - (intOf y).toNat)
  case atStart => exact ⟨0, [], rfl, Nat.zero_le _, OwnWr.nil _ _, rfl, Below.refl _ _⟩
  case round =>
    obtain ⟨k, K, rfl, hk, hx, hK, hB⟩ := hrel
    have HX : Hid (OwnWr wr w.heap.size _ K) := hx
    have HK : Hid (K.map Wr.bare = (writesR r).take k) := hK
    clear hx hK
    by_cases hkn : k < n
    · have hki : (k : Int) < n := by omega
      have HY : Hid ((writesR r).take (k + 1) = (writesR r).take k ++ [writeR (rowAt r k) (.slice none 0 0)]) := writesR_take r k (by rw [HN.out]; exact hkn)
      obtain ⟨b, o, a1, c1, rfl, d0, d1, d2, hil, hli⟩ := (hr.below hB).nth k (by rw [HN.out]; exact hkn)
      have hm := fun W (hW : Below wr.heap.size wr W) => writeof_any (c := c1) (r.nth k).1 ⟨(r.nth k).2.1.toArray⟩ (hli.below hW) (Row.small_nth hsm k).2.2
      have HM : Hid (K.length ≤ 1000000) := by
        show _ ≤ _
        have := congrArg List.length HK.out
        rw [List.length_map, List.length_take, writesR_len, HN.out] at this
        omega
      clear hr hli hsm hil
      unfold rowAt at HY
      generalize hq : (r.nth k).2.2 = q at *
      clear hq
      have HM2 : Hid (∀ W, Below wr.heap.size wr W → Calls Try.prog 48 #[.agg #[.bool (r.nth k).1, .string ⟨(r.nth k).2.1.toArray⟩, .slice a1 q.len c1]] W fun e w' => WPost W w' q e ∧ Below W.heap.size W w') := hm
      clear hm
      generalize (r.nth k).1 = b0 at *
      generalize (⟨(r.nth k).2.1.toArray⟩ : ByteArray) = s0 at *
      generalize hm : q.len = m at *
      clear hm
      obtain ⟨i0, hi, hz0, hz1, hz2⟩ := infoWriteJ
      go_wp2_with (first
        | (go_at_call 48; refine (HM2.out _ (below_new1 _ _)).mono ?_; rintro e w1 ⟨⟨v1, rfl, hat, hlt⟩, hB1⟩
           obtain ⟨p2, n2, k2, rfl⟩ := hat.shape3
           have HX1 : Hid ((writeR q (.slice p2 n2 k2)).bare = writeR q (.slice none 0 0) ∧ (writeR q (.slice p2 n2 k2)).n < 18446744073709551616) := ⟨bare_writeR _ _, writeR_lt _ _⟩
           have hxs : (writeR q (.slice p2 n2 k2)).s = .slice p2 n2 k2 := writeR_s _ _
           generalize writeR q (.slice p2 n2 k2) = x at hat HX1 hxs ⊢
           obtain ⟨xa, xg, xr, xn, xb, xc, xs, xL⟩ := x
           dsimp only at hxs hat
           subst hxs
           unfold wra wrC
           dsimp only)
        | (have hB1' := one_alloc hB1
           have hB2 : Below wr.heap.size wr (World.alloc w1 (.cells #[.string xa, .bool xg, .bool xr, .int .u64 (xn : Nat), .string xb, .string xc, .slice p2 n2 k2] 38)) := below_new hB1' (below_new1 _ _)
           refine wpList_append_own2 _ rfl _ _ 22 rfl w.heap.size 38 i0 (.agg #[.string ⟨#[]⟩, .bool false, .bool false, .int .u64 0, .string ⟨#[]⟩, .string ⟨#[]⟩, .slice none 0 0]) 7 88 underWrites hi hz0 hz1 hz2 rfl (by omega) _ K.length (wcells K) rfl (HX.out.below0 hB2).1 ⟨w1.heap.size, 0, none⟩ 1 1 [.string xa, .bool xg, .bool xr, .int .u64 (xn : Nat), .string xb, .string xc, .slice p2 n2 k2] rfl rfl (news7 w1 _ _ _ _ _ _ _ _) (by intro u hu; simp at hu; rcases hu with rfl | rfl | rfl | rfl | rfl | rfl | rfl <;> rfl) (by omega) (by have := HM.out; unfold maxLen; omega) (by have := HM.out; omega) (Nat.le_trans hB.size hB2.size) ?_
           intro v' w2 hv2 hg2 hw2)
        | fail)
      have hB3 : Below w.heap.size w w2 := (below_new hB hB2).grown hg2 (Nat.le_trans hB.size hB2.size) (fun k hk => (HX.out.lt k hk).1)
      refine ⟨⟨k + 1, K ++ [⟨xa, xg, xr, xn, xb, xc, .slice p2 n2 k2, xL⟩], by go_num, by omega, ?_, ?_, hB3⟩, by simp [intOf]; omega⟩
      · refine (HX.out.below0 hB2).snoc ⟨⟨(hat.below (below_new1 _ _)), HX1.out.2⟩, fun b hb => ?_⟩ hv2 hg2 hw2
        have h1 := hlt b hb
        have h2 := hB.size
        rw [World.size_alloc] at h1 ⊢
        refine ⟨by omega, by omega, ?_⟩
        intro e
        have := (HX.out.lt b e.symm).2
        omega
      · rw [List.map_append, HK.out, HY.out, ← HX1.out.1]; rfl
    · have hki : ¬ (k : Int) < n := by omega
      obtain rfl : k = n := by omega
      have HE : Hid ((writesR r).take k = writesR r) := List.take_of_length_le (by rw [writesR_len]; have := HN.out; omega)
      go_wp2_with fail
      go_ret
      have := HK.out
      rw [HE.out] at this
      exact ⟨_, rfl, K, HX.out, this, hB⟩
end Go.Proofs.Ytadpopjhhanapaa
