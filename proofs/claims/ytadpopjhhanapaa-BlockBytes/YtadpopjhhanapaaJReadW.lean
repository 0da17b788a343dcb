/-
  Read.
-/
import Derived.Test.YtadpopjhhanapaaJBlockR
namespace Go.Proofs.Ytadpopjhhanapaa
open Go Go.RowKit

/-- The block whose bytes these are. -/
def readOf (s : List UInt8) : Option (Int × List Wr) :=
  if 60000 < s.length then none else
  match decode s with
  | some (.item _ _ i _) => if bytesOf (blkR i).1 (blkR i).2 = some s then some (blkR i) else none
  | _ => none
theorem okB_bare (n : Int) (L : List Wr) : okB n (L.map Wr.bare) = okB n L := by
  have h : ∀ (L : List Wr) (last : ByteArray), riseL Wr.a okW 20 last (L.map Wr.bare) = riseL Wr.a okW 20 last L := by
    intro L
    induction L with
    | nil => intro _; rfl
    | cons x l ih => intro last; rw [List.map_cons]; unfold riseL; rw [ih]; rfl
  unfold okB
  rw [List.length_map, h]
theorem encBk_bare (n : Nat) (L : List Wr) : encBk n (L.map Wr.bare) = encBk n L := by
  unfold encBk
  rw [List.map_map]; rfl
theorem bytesOf_bare (n : Int) (L : List Wr) : bytesOf n (L.map Wr.bare) = bytesOf n L := by
  unfold bytesOf
  rw [okB_bare, encBk_bare]
theorem decode_small {s : List UInt8} {b : Bool} {t : List UInt8} {i r : Row} (h : decode s = some (.item b t i r)) (hs : s.length ≤ 1000000) : i.small 1000000 := by
  have h1 : things 16 s = some (.item b t i r) := by
    unfold decode at h
    split at h
    · exact h
    · cases h
  exact (things_small s.length 16 s (Nat.le_refl _) hs _ h1).2.2.1
section
variable {ops : Array Oper} {rest : List Oper} {op : Oper} {a : Act} {Q : Exit → Act → World → Prop} {w : World}
theorem run_neqJ (ty : TypeId) (x y : Operand) {u v : ByteArray} (ρ : Operand → Value) (hx : ρ x = .string u) (hy : ρ y = .string v) (ho : op.op = .binOp .neq 9 x y ty) (w : World) : (execOp ρ op).run Try.prog w = .ok (.value (.bool (!decide (u = v)))) w := by
  have h1 : (u.toList == v.toList) = decide (u = v) := beqD u v
  unfold execOp
  simp [ho, hx, hy, go_sem]
  rw [← h1]
theorem wpList_neqJ (hw : Region.wanted op (yielded ops a.tmps) = true) (ty : TypeId) (x y : Operand) (ho : op.op = .binOp .neq 9 x y ty) {u v : ByteArray} (hx : a.eval x = .string u) (hy : a.eval y = .string v) {r : Bool} (hr : (!decide (u = v)) = r)
    (h : wpList Try.prog ops Q rest (a.put op.dst (.bool r)) w) : wpList Try.prog ops Q (op :: rest) a w :=
  wpList_step fun _ hK => by
    rw [if_pos hw]
    unfold Oper.wp
    rw [run_neqJ ty x y a.eval hx hy ho w]
    rw [hr]
    exact hK _ _ h
end
def RPost (w' : World) (o : Option (Int × List Wr)) (e : Ending) : Prop := match o with
  | some (n, L) => ∃ v' K, e = .returned (.tuple #[blkV n v', .int .i64 0]) ∧ WritesAt w' v' K ∧ K.map Wr.bare = L
  | none => e = .returned (.tuple #[blkV 0 (.slice none 0 0), .int .i64 10])
set_option maxRecDepth 8000 in
set_option maxHeartbeats 4000000 in
theorem kread_any (x : ByteArray) (w : World) : Calls Try.prog 13 #[.string x] w fun e w' => RPost w' (readOf x.data.toList) e ∧ Below w.heap.size w w' := by
  obtain ⟨W0, g, hW0, hg, hB0, hz⟩ := box_z w 24 #[.int .i64 0, .slice none 0 0]
  have HB : Hid (Below w.heap.size w W0) := hB0
  have HG : Hid (w.heap.size = g) := hg
  have HH : Hid (Holds W0 g 24 #[.int .i64 0, .slice none 0 0]) := hz
  clear hB0 hz
  by_cases h6 : 60000 < x.size
  · have h6i : (60000 : Int) < x.size := by omega
    have hr : readOf x.data.toList = none := by unfold readOf; rw [if_pos (by rw [sizeB]; exact h6)]
    rw [hr]
    unfold RPost blkV
    dsimp only
    clear hr h6
    go_enter Try.func13, Try.ntmps13
    go_wp2_with (refine wpList_storeH rfl 24 _ _ rfl g #[.int .i64 0, .slice none 0 0] rfl rfl 24 _ HH.out infoBlk2 rfl (by simp [Value.oneCell']) ?_; intro w3 h3 o3 z3)
    exact bodyPost_ret (results_cellH2 (p := 2) (u := 3) rfl _ w3 g 24 _ _ rfl h3 Try.underlying24 rfl infoBlk2) rfl ⟨rfl, Only.fresh HB.out o3 (by have := HG.out; omega)⟩
  · have h6i : ¬ (60000 : Int) < x.size := by omega
    have hdec := decode_any x W0 (by omega)
    cases hd : decode x.data.toList with
    | none =>
      rw [hd] at hdec
      have hr : readOf x.data.toList = none := by unfold readOf; rw [if_neg (by rw [sizeB]; exact h6), hd]
      rw [hr]
      unfold RPost blkV
      unfold ItemAns at hdec
      dsimp only at hdec ⊢
      have HDEC : Hid (Calls Try.prog 24 #[.string x] W0 fun e w' => e = .returned (.tuple #[.agg #[.bool false, .string ⟨#[]⟩, .slice none 0 0], .int .i64 10]) ∧ Below W0.heap.size W0 w') := hdec
      clear hdec hr hd h6
      go_enter Try.func13, Try.ntmps13
      go_wp2_with (first
        | (go_at_call 24; refine HDEC.out.mono ?_; rintro e w1 ⟨rfl, hB1⟩)
        | (refine wpList_storeH rfl 24 _ _ rfl g #[.int .i64 0, .slice none 0 0] rfl rfl 24 _ (below_holds (below_new hB1 (below_new1 _ _)) HH.out) infoBlk2 rfl (by simp [Value.oneCell']) ?_; intro w3 h3 o3 z3)
        | fail)
      exact bodyPost_ret (results_cellH2 (p := 2) (u := 3) rfl _ w3 g 24 _ _ rfl h3 Try.underlying24 rfl infoBlk2) rfl ⟨rfl, Only.fresh (below_new HB.out (below_new hB1 (below_new1 _ _))) o3 (by have := HG.out; omega)⟩
    | some r =>
      obtain ⟨b, t, i, rfl, _, _⟩ := decode_one hd
      have hsm := decode_small hd (by rw [sizeB]; omega)
      have hr : readOf x.data.toList = if bytesOf (blkR i).1 (blkR i).2 = some x.data.toList then some (blkR i) else none := by unfold readOf; rw [if_neg (by rw [sizeB]; exact h6), hd]
      rw [hr, ]
      rw [hd] at hdec
      unfold ItemAns at hdec
      dsimp only at hdec
      have hlen : ∀ K : List Wr, K.map Wr.bare = (blkR i).2 → K.length ≤ 1000000 := by
        intro K hK
        have h1 := congrArg List.length hK
        rw [List.length_map] at h1
        rw [h1]
        unfold blkR
        split
        · rw [writesR_len]; exact (Row.small_nth hsm 1).2.1
        · exact Nat.zero_le _
      have HDEC : Hid (Calls Try.prog 24 #[.string x] W0 fun e w' => (∃ a c, e = .returned (.tuple #[.agg #[.bool b, .string ⟨t.toArray⟩, .slice a i.len c], .int .i64 0]) ∧ LiesB w' i a) ∧ Below W0.heap.size W0 w') := hdec.mono fun e w' h => by
        obtain ⟨⟨a, c, h1, _, _, h2⟩, h3⟩ := h
        exact ⟨⟨a, c, h1, Lies.mono (fun k hk => hk.2) h2⟩, h3⟩
      have HBO : Hid (∀ W a c, LiesB W i a → Calls Try.prog 25 #[.agg #[.bool b, .string ⟨t.toArray⟩, .slice a i.len c]] W fun e w' => BPost W w' i e ∧ Below W.heap.size W w') := fun W a c h => blockof_any b _ h hsm
      have HBY : Hid (∀ W v K, OwnWr W 0 v K → K.map Wr.bare = (blkR i).2 → Calls Try.prog 11 #[blkV (blkR i).1 v] W fun e w' => e = .returned (bytV (bytesOf (blkR i).1 (blkR i).2)) ∧ Below W.heap.size W w') := fun W v K h1 h2 => by
        have := kbytes_any (n := (blkR i).1) h1.at (by have := hlen K h2; omega)
        rw [← bytesOf_bare, h2] at this
        exact this
      clear hdec hr hd h6 hlen hsm
      have HSZ : Hid (∀ y : List UInt8, (⟨y.toArray⟩ : ByteArray) = x ↔ y = x.data.toList) := by
        intro y
        constructor
        · intro e; rw [← e]
        · intro e; rw [e]
      generalize bytesOf (blkR i).1 (blkR i).2 = o at *
      unfold BPost at HBO
      generalize hbk : blkR i = B at *
      obtain ⟨n0, L0⟩ := B
      clear hbk
      dsimp only at *
      generalize i.len = m at *
      generalize (⟨t.toArray⟩ : ByteArray) = t at *
      unfold blkV at HBO HBY
      cases o with
      | none =>
        rw [if_neg (by simp)]
        unfold RPost blkV
        unfold bytV at HBY
        dsimp only at HBY ⊢
        have HNE : Hid (True) := trivial
        go_enter Try.func13, Try.ntmps13
        go_wp2_with (first
          | (go_at_call 24; refine HDEC.out.mono ?_; rintro e w1 ⟨⟨a, c, rfl, hli⟩, hB1⟩)
          | (go_at_call 25; refine (HBO.out _ _ _ (hli.below (below_new1 _ _))).mono ?_; rintro e w2 ⟨⟨v2, K2, rfl, hat, hK⟩, hB2⟩
             obtain ⟨p2, n2, k2, rfl⟩ := hat.shape3
             have hB2' := one_alloc hB2)
          | (go_at_call 11; refine (HBY.out _ _ K2 ((hat.below0 (below_new1 _ _)).mono (Nat.zero_le _)) hK).mono ?_; rintro e w4 ⟨rfl, hB4⟩
             have hB4' := one_alloc hB4)
          | (refine wpList_storeH rfl 24 _ _ rfl g #[.int .i64 0, .slice none 0 0] rfl rfl 24 _ (below_holds (below_new hB1 (below_new hB2' hB4')) HH.out) infoBlk2 rfl (by simp [Value.oneCell']) ?_; intro w5 h5 o5 z5)
          | fail)
        refine bodyPost_ret (results_cellH2 (p := 2) (u := 3) rfl _ w5 g 24 _ _ rfl h5 Try.underlying24 rfl infoBlk2) rfl ⟨rfl, Only.fresh (below_new HB.out (below_new hB1 (below_new hB2' hB4'))) o5 (by have := HG.out; omega)⟩
      | some y =>
        unfold bytV at HBY
        dsimp only at HBY
        by_cases hy : y = x.data.toList
        · have HNE : Hid ((!decide ((⟨y.toArray⟩ : ByteArray) = x)) = false) := by show _ = _; rw [decide_eq_true ((HSZ.out y).2 hy)]; rfl
          rw [if_pos (by rw [hy])]
          unfold RPost blkV
          dsimp only
          clear hy
          generalize (⟨y.toArray⟩ : ByteArray) = S at *
          go_enter Try.func13, Try.ntmps13
          go_wp2_with (first
            | (go_at_call 24; refine HDEC.out.mono ?_; rintro e w1 ⟨⟨a, c, rfl, hli⟩, hB1⟩)
            | (go_at_call 25; refine (HBO.out _ _ _ (hli.below (below_new1 _ _))).mono ?_; rintro e w2 ⟨⟨v2, K2, rfl, hat, hK⟩, hB2⟩
               obtain ⟨p2, n2, k2, rfl⟩ := hat.shape3
               have hB2' := one_alloc hB2)
            | (go_at_call 11; refine (HBY.out _ _ K2 ((hat.below0 (below_new1 _ _)).mono (Nat.zero_le _)) hK).mono ?_; rintro e w4 ⟨rfl, hB4⟩
               have hB4' := one_alloc hB4
               have hblk := below_holds hB4 (Holds.new w2 24 #[.int .i64 n0, .slice p2 n2 k2]))
            | (refine wpList_loadH rfl 24 _ rfl _ rfl _ _ _ hblk Try.underlying24 rfl infoBlk2 ?_)
            | (refine wpList_neqJ rfl _ _ _ rfl rfl rfl HNE.out ?_)
            | (refine wpList_storeH rfl 24 _ _ rfl g #[.int .i64 n0, .slice p2 n2 k2] rfl rfl 24 _ (below_holds (below_new hB1 (below_new hB2' hB4')) HH.out) infoBlk2 rfl (by simp [Value.oneCell']) ?_; intro w5 h5 o5 z5)
            | fail)
          refine bodyPost_ret (results_cellH2 (p := 2) (u := 3) rfl _ w5 g 24 _ _ rfl h5 Try.underlying24 rfl infoBlk2) rfl ⟨⟨.slice p2 n2 k2, K2, rfl, ?_, hK⟩, Only.fresh (below_new HB.out (below_new hB1 (below_new hB2' hB4'))) o5 (by have := HG.out; omega)⟩
          exact (((hat.below0 hB4').mono (b' := W0.heap.size) (by have := hB1.size; simp at *; omega)).kept0 (fun b h1 h2 => o5.block b h2 (by have := HH.out.lt; omega)) o5.size).at
        · have HNE : Hid ((!decide ((⟨y.toArray⟩ : ByteArray) = x)) = true) := by show _ = _; rw [decide_eq_false (fun e => hy ((HSZ.out y).1 e))]; rfl
          rw [if_neg (by intro e; injection e with e; exact hy e)]
          unfold RPost blkV
          dsimp only
          clear hy
          generalize (⟨y.toArray⟩ : ByteArray) = S at *
          go_enter Try.func13, Try.ntmps13
          go_wp2_with (first
            | (go_at_call 24; refine HDEC.out.mono ?_; rintro e w1 ⟨⟨a, c, rfl, hli⟩, hB1⟩)
            | (go_at_call 25; refine (HBO.out _ _ _ (hli.below (below_new1 _ _))).mono ?_; rintro e w2 ⟨⟨v2, K2, rfl, hat, hK⟩, hB2⟩
               obtain ⟨p2, n2, k2, rfl⟩ := hat.shape3
               have hB2' := one_alloc hB2)
            | (go_at_call 11; refine (HBY.out _ _ K2 ((hat.below0 (below_new1 _ _)).mono (Nat.zero_le _)) hK).mono ?_; rintro e w4 ⟨rfl, hB4⟩
               have hB4' := one_alloc hB4)
            | (refine wpList_neqJ rfl _ _ _ rfl rfl rfl HNE.out ?_)
            | (refine wpList_storeH rfl 24 _ _ rfl g #[.int .i64 0, .slice none 0 0] rfl rfl 24 _ (below_holds (below_new hB1 (below_new hB2' hB4')) HH.out) infoBlk2 rfl (by simp [Value.oneCell']) ?_; intro w5 h5 o5 z5)
            | fail)
          refine bodyPost_ret (results_cellH2 (p := 2) (u := 3) rfl _ w5 g 24 _ _ rfl h5 Try.underlying24 rfl infoBlk2) rfl ⟨rfl, Only.fresh (below_new HB.out (below_new hB1 (below_new hB2' hB4'))) o5 (by have := HG.out; omega)⟩
end Go.Proofs.Ytadpopjhhanapaa
