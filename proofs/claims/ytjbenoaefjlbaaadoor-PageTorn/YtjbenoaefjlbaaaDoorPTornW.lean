/-
  PageTorn's walk.
-/
import Derived.Test.YtjbenoaefjlbaaaDoorPAwake
import Derived.Test.YtjbenoaefjlbaaaDoorPEq
namespace Go.Proofs.YtjbenoaefjlbaaaDoor
open Go Go.RowKit

theorem text_eq {a b : ByteArray} (h : a = b) : (a.toList == b.toList) = true := by rw [h]; exact beq_self_eq_true _
/-- The first sectors. -/
def tornTo (a b : List UInt8) (c : Nat → Bool) : Nat → List UInt8
  | 0 => []
  | k + 1 => tornTo a b c k ++ ((if c k then b else a).drop (256 * k)).take 256
theorem tornTo_congr (a b : List UInt8) {c d : Nat → Bool} : ∀ k, (∀ j, j < k → c j = d j) → tornTo a b c k = tornTo a b d k
  | 0, _ => rfl
  | k + 1, h => by rw [tornTo, tornTo, tornTo_congr a b k (fun j hj => h j (by omega)), h k (by omega)]
theorem tornTo_four (a b : List UInt8) (c : Nat → Bool) : tornTo a b c 4 = tornL a b c := by
  unfold tornL
  simp only [tornTo, List.nil_append, Nat.mul_zero, List.drop_zero]
theorem torn_step {a b S : ByteArray} {c : Nat → Bool} {k : Nat} (v : Bool) (ha : a.size = 1024) (hb : b.size = 1024) (hk : k < 4) (hS : S.data.toList = tornTo a.data.toList b.data.toList c k) (hSs : S.size = 256 * k) :
    ∃ c', (S ++ (if v then b else a).extract (256 * k) (256 * k + 256)).data.toList = tornTo a.data.toList b.data.toList c' (k + 1) ∧ (S ++ (if v then b else a).extract (256 * k) (256 * k + 256)).size = 256 * (k + 1) := by
  refine ⟨fun j => if j = k then v else c j, ?_, ?_⟩
  · rw [append_toList, extract_toList, hS, tornTo, tornTo_congr (d := c) _ _ k (fun j hj => if_neg (by omega)), if_pos rfl, Nat.add_sub_cancel_left]
    cases v <;> rfl
  · rw [ByteArray.size_append, ByteArray.size_extract, hSs]
    have : (if v then b else a).size = 1024 := by cases v <;> assumption
    omega
set_option maxRecDepth 8000 in
set_option maxHeartbeats 4000000 in
theorem torn_any (a b : ByteArray) (x : Int) (w : World) (ha : a.size = 1024) (hb : b.size = 1024) :
    Calls Tryd.prog 20 #[.string a, .string b, .int .i64 x] w fun e w' => (∃ c : Nat → Bool, e = .returned (.string ⟨(tornL a.data.toList b.data.toList c).toArray⟩)) ∧ w' = w := by
  have hai : (a.size : Int) = 1024 := by omega
  have hbi : (b.size : Int) = 1024 := by omega
  go_enter Tryd.func20, Tryd.ntmps20
  go_wp2_with fail
  go_loopw [7, 8] (fun sv zv wr => ∃ (k : Nat) (c : Nat → Bool) (S : ByteArray), k ≤ 4 ∧ zv = .int .i64 (k : Nat) ∧ sv = .string S ∧ S.data.toList = tornTo a.data.toList b.data.toList c k ∧ S.size = 256 * k ∧ wr = w) (fun _ zv _ => 4 - (intOf zv).toNat)
  case atStart => exact ⟨0, fun _ => false, _, by omega, rfl, rfl, rfl, rfl, rfl⟩
  case round =>
    obtain ⟨k, c, S, hk, rfl, rfl, hS, hSs, rfl⟩ := hrel
    by_cases hlt : k < 4
    · have hki : (k : Int) < 4 := by omega
      have hSi : (S.size : Int) ≤ 1024 := by omega
      cases hv : (bits BinOp.and IntKind.i64 (x / 2 ^ k) 1 == 1)
      · obtain ⟨c', h1, h2⟩ := torn_step false ha hb hlt hS hSs
        have HH : Hid (_ ∧ _) := ⟨h1, h2⟩
        clear h1 h2 hS hSs
        go_wp2_with fail
        exact ⟨⟨k + 1, c', _, by omega, by go_num, rfl, HH.out.1, HH.out.2, trivial⟩, by simp [intOf]; omega⟩
      · obtain ⟨c', h1, h2⟩ := torn_step true ha hb hlt hS hSs
        have HH : Hid (_ ∧ _) := ⟨h1, h2⟩
        clear h1 h2 hS hSs
        go_wp2_with fail
        exact ⟨⟨k + 1, c', _, by omega, by go_num, rfl, HH.out.1, HH.out.2, trivial⟩, by simp [intOf]; omega⟩
    · have hki : ¬ (k : Int) < 4 := by omega
      obtain rfl : k = 4 := by omega
      rw [tornTo_four] at hS
      have HS : Hid (S = ⟨(tornL a.data.toList b.data.toList c).toArray⟩) := bytes_ext hS
      clear hS hSs
      go_wp2_with fail
      go_ret
      exact ⟨⟨c, by rw [← HS.out]; rfl⟩, rfl⟩
theorem meta_split {t r e q : Int} (ht : -9223372036854775808 ≤ t ∧ t ≤ 9223372036854775807) (hr : -9223372036854775808 ≤ r ∧ r ≤ 9223372036854775807) (he : -9223372036854775808 ≤ e ∧ e ≤ 9223372036854775807) (hq : -9223372036854775808 ≤ q ∧ q ≤ 9223372036854775807) :
    (t < 0 ∨ r < 0 ∨ e < 0 ∨ q < 0) ∨ ∃ m : M4, m.small ∧ t = (m.tx : Nat) ∧ r = (m.root : Nat) ∧ e = (m.ents : Nat) ∧ q = (m.pgs : Nat) := by
  by_cases h : t < 0 ∨ r < 0 ∨ e < 0 ∨ q < 0
  · exact .inl h
  · refine .inr ⟨⟨t.toNat, r.toNat, e.toNat, q.toNat⟩, ?_, ?_, ?_, ?_, ?_⟩
    · unfold M4.small
      dsimp only
      omega
    all_goals (dsimp only; omega)
theorem torn_one (m n : M4) (c : Nat → Bool) : ⟨(tornL (metaS m).data.toList (metaS n).data.toList c).toArray⟩ = if c 0 then metaS n else metaS m := by
  apply bytes_ext
  exact torn_metas m n c
theorem boxes_two (w : World) (A B : Array Value) (h1 : Nat) (hh : h1 = w.heap.size) : Holds ((w.alloc (.cells A 30)).alloc (.cells B 30)) h1 30 A ∧ Holds ((w.alloc (.cells A 30)).alloc (.cells B 30)) (h1 + 1) 30 B ∧ Below w.heap.size w ((w.alloc (.cells A 30)).alloc (.cells B 30)) := by
  subst hh
  refine ⟨(Holds.new w 30 A).alloc _, ?_, ((Below.refl _ _).alloc (Nat.le_refl _) _).alloc (by rw [World.size_alloc]; omega) _⟩
  have := Holds.new (w.alloc (.cells A 30)) 30 B
  rw [World.size_alloc] at this
  exact this
set_option maxRecDepth 8000 in
set_option maxHeartbeats 8000000 in
theorem torn_walk (t r e q t' r' e' q' x : Int) (w : World) (hT : Tabs w)
    (hm : (t < 0 ∨ r < 0 ∨ e < 0 ∨ q < 0) ∨ ∃ m : M4, m.small ∧ t = (m.tx : Nat) ∧ r = (m.root : Nat) ∧ e = (m.ents : Nat) ∧ q = (m.pgs : Nat))
    (hn : (t' < 0 ∨ r' < 0 ∨ e' < 0 ∨ q' < 0) ∨ ∃ m : M4, m.small ∧ t' = (m.tx : Nat) ∧ r' = (m.root : Nat) ∧ e' = (m.ents : Nat) ∧ q' = (m.pgs : Nat)) :
    Calls Tryd.prog 5 #[.agg #[.int .i64 t, .int .i64 r, .int .i64 e, .int .i64 q], .agg #[.int .i64 t', .int .i64 r', .int .i64 e', .int .i64 q'], .int .i64 x] w fun e w' => e = .returned (.bool true) ∧ Below w.heap.size w w' := by
  have hz := zeroMeta
  obtain ⟨g, hg⟩ : ∃ g, g = w.heap.size := ⟨_, rfl⟩
  obtain ⟨b1, b2, hB0⟩ := boxes_two w #[.int .i64 t, .int .i64 r, .int .i64 e, .int .i64 q] #[.int .i64 t', .int .i64 r', .int .i64 e', .int .i64 q'] g hg
  have HG : Hid (g = w.heap.size) := hg
  clear hg
  go_enter Tryd.func5, Tryd.ntmps5
  go_wp2_with fail
  rw [← HG.out]
  generalize (w.alloc (.cells #[.int .i64 t, .int .i64 r, .int .i64 e, .int .i64 q] 30)).alloc (.cells #[.int .i64 t', .int .i64 r', .int .i64 e', .int .i64 q'] 30) = W0 at b1 b2 hB0 ⊢
  refine (awake_any _ (hT.below hB0)).mono ?_
  rintro e1 w1 ⟨rfl, hB1'⟩
  have hB1 := hB0.trans (hB1'.mono hB0.size)
  have a1 := Below.holds hB1' b1
  have a2 := Below.holds hB1' b2
  clear hB1' hB0 b1 b2
  have isz : (Tryd.prog.info? 30).map (·.size) = some (#[.int .i64 t, .int .i64 r, .int .i64 e, .int .i64 q] : Array Value).size := infoMeta
  have isz' : (Tryd.prog.info? 30).map (·.size) = some (#[.int .i64 t', .int .i64 r', .int .i64 e', .int .i64 q'] : Array Value).size := infoMeta
  go_wp2_with (first
    | (refine wpList_loadG rfl 30 (.tmp 3) rfl g rfl 30 _ _ a1 Tryd.underlying30 rfl isz ?_)
    | fail)
  rcases hm with hm | ⟨m, hm, rfl, rfl, rfl, rfl⟩
  · refine (meta_no t r e q _ hm).mono ?_
    rintro e1 w2 ⟨rfl, hB2'⟩
    have hB2 := hB1.trans (hB2'.mono hB1.size)
    have b1 := Below.holds hB2' a1
    have b2 := Below.holds hB2' a2
    clear hB2' hB1 a1 a2
    go_wp2_with (first
      | (refine wpList_loadG rfl 30 (.tmp 4) rfl (g + 1) rfl 30 _ _ b2 Tryd.underlying30 rfl isz' ?_)
      | fail)
    rcases hn with hn | ⟨n, hn, rfl, rfl, rfl, rfl⟩
    · refine (meta_no t' r' e' q' _ hn).mono ?_
      rintro e1 w3 ⟨rfl, hB3'⟩
      have hB3 := hB2.trans (hB3'.mono hB2.size)
      clear hB3' hB2 b1 b2
      go_wp2_with fail
      go_ret
      exact ⟨rfl, hB3⟩
    · refine (meta_any n hn _ (hT.below hB2)).mono ?_
      rintro e1 w3 ⟨rfl, hB3'⟩
      have hB3 := hB2.trans (hB3'.mono hB2.size)
      generalize metaS n = N
      clear hB3' hB2 b1 b2
      go_wp2_with fail
      go_ret
      exact ⟨rfl, hB3⟩
  · refine (meta_any m hm _ (hT.below hB1)).mono ?_
    rintro e1 w2 ⟨rfl, hB2'⟩
    have hB2 := hB1.trans (hB2'.mono hB1.size)
    have b1 := Below.holds hB2' a1
    have b2 := Below.holds hB2' a2
    clear hB2' hB1 a1 a2
    obtain ⟨A, hA⟩ : ∃ A, A = metaS m := ⟨_, rfl⟩
    have hAs : A.size = 1024 := by rw [hA]; exact metaS_size m
    have hAi : (A.size : Int) = 1024 := by omega
    rw [← hA]
    have HA : Hid (A = metaS m) := hA
    clear hA
    go_wp2_with (first
      | (refine wpList_loadG rfl 30 (.tmp 4) rfl (g + 1) rfl 30 _ _ b2 Tryd.underlying30 rfl isz' ?_)
      | fail)
    rcases hn with hn | ⟨n, hn, rfl, rfl, rfl, rfl⟩
    · refine (meta_no t' r' e' q' _ hn).mono ?_
      rintro e1 w3 ⟨rfl, hB3'⟩
      have hB3 := hB2.trans (hB3'.mono hB2.size)
      clear hB3' hB2 b1 b2
      go_wp2_with fail
      go_ret
      exact ⟨rfl, hB3⟩
    · refine (meta_any n hn _ (hT.below hB2)).mono ?_
      rintro e1 w3 ⟨rfl, hB3'⟩
      have hB3 := hB2.trans (hB3'.mono hB2.size)
      have c1 := Below.holds hB3' b1
      have c2 := Below.holds hB3' b2
      clear hB3' hB2 b1 b2
      obtain ⟨B, hBB⟩ : ∃ B, B = metaS n := ⟨_, rfl⟩
      have hBs : B.size = 1024 := by rw [hBB]; exact metaS_size n
      have hBi : (B.size : Int) = 1024 := by omega
      rw [← hBB]
      have HBB : Hid (B = metaS n) := hBB
      clear hBB
      go_wp2_with fail
      refine (torn_any A B x _ hAs hBs).mono ?_
      rintro e1 w4 ⟨⟨c, rfl⟩, rfl⟩
      have ht : (⟨(tornL A.data.toList B.data.toList c).toArray⟩ : ByteArray) = if c 0 then B else A := by rw [HA.out, HBB.out]; exact torn_one m n c
      rw [ht]
      clear ht
      have hAr : readS A = some m := by rw [HA.out]; exact read_meta m hm
      have hBr : readS B = some n := by rw [HBB.out]; exact read_meta n hn
      have hgd := guardMeta
      cases hc : c 0
      · rw [if_neg (by decide)]
        go_wp2_with fail
        refine (read_any A _ (hT.below hB3) (by omega)).mono ?_
        rintro e1 w5 ⟨rfl, hB5'⟩
        have hB5 := hB3.trans (hB5'.mono hB3.size)
        have d1 := (Below.holds hB5' c1).alloc (.cells #[.int .i64 m.tx, .int .i64 m.root, .int .i64 m.ents, .int .i64 m.pgs] 30)
        obtain ⟨x0, x1, x2, x3⟩ := d1.four
        obtain ⟨r1, r2⟩ := read_yes hAr
        rw [r1, r2, show m4A m = #[.int .i64 m.tx, .int .i64 m.root, .int .i64 m.ents, .int .i64 m.pgs] from rfl]
        have he := eql_same m
        clear hB5' hB3 c1 c2 d1 r1 r2 hAr hBr
        go_wp2_with fail
        go_ret
        exact ⟨rfl, hB5.alloc hB5.size _⟩
      · rw [if_pos rfl]
        go_wp2_with fail
        refine (read_any B _ (hT.below hB3) (by omega)).mono ?_
        rintro e1 w5 ⟨rfl, hB5'⟩
        have hB5 := hB3.trans (hB5'.mono hB3.size)
        have d1 := (Below.holds hB5' c1).alloc (.cells #[.int .i64 n.tx, .int .i64 n.root, .int .i64 n.ents, .int .i64 n.pgs] 30)
        have d2 := (Below.holds hB5' c2).alloc (.cells #[.int .i64 n.tx, .int .i64 n.root, .int .i64 n.ents, .int .i64 n.pgs] 30)
        obtain ⟨x0, x1, x2, x3⟩ := d1.four
        obtain ⟨y0, y1, y2, y3⟩ := d2.four
        obtain ⟨r1, r2⟩ := read_yes hBr
        rw [r1, r2, show m4A n = #[.int .i64 n.tx, .int .i64 n.root, .int .i64 n.ents, .int .i64 n.pgs] from rfl]
        have he := eql_same n
        clear hB5' hB3 c1 c2 d1 d2 r1 r2 hAr hBr
        by_cases hmn : m = n
        · subst hmn
          have q1 : (B.toList == A.toList) = true := text_eq (by rw [HA.out, HBB.out])
          go_wp2_with fail
          go_ret
          exact ⟨rfl, hB5.alloc hB5.size _⟩
        · have q1 : (B.toList == A.toList) = false := text_ne (by rw [HA.out, HBB.out]; exact meta_ne hn hm fun q => hmn q.symm)
          have he2 := eql_unlike (m := n) (n := m) fun q => hmn q.symm
          go_wp2_with fail
          go_ret
          exact ⟨rfl, hB5.alloc hB5.size _⟩
end Go.Proofs.YtjbenoaefjlbaaaDoor
