/-
  A write and a block as bytes.
-/
import Derived.Test.YtadpopjhhanapaaJTextW
import Derived.Test.YtadpopjhhanapaaJEachW
import Derived.Test.YtadpopjhhanapaaJMayW
import Derived.Test.YtadpopjhhanapaaTGTree
namespace Go.Proofs.Ytadpopjhhanapaa
open Go Go.RowKit

def kindB (x : Wr) : ByteArray := if x.g = true then ⟨#[1]⟩ else if x.r = true then ⟨#[2]⟩ else ⟨#[]⟩
def numB (n : Nat) : ByteArray := ⟨(num n).toArray⟩
def headW (x : Wr) : List ByteArray := [x.a, kindB x, numB x.n, x.b, x.c]
def encW (x : Wr) : List UInt8 := listL (txtL (headW x) ++ listL (cat (x.L.map encSB)))
def encWB (x : Wr) : ByteArray := ⟨(encW x).toArray⟩
def encBk (n : Nat) (L : List Wr) : List UInt8 := listL (txtL [numB n] ++ listL (cat (L.map encWB)))
structure SmallW (x : Wr) : Prop where
  a : x.a.size ≤ 100
  b : x.b.size ≤ 100
  c : x.c.size ≤ 100
  l : x.L.length ≤ 64
  s : ∀ y ∈ x.L, Small y
theorem ldU64 {w : World} {ad : Addr} {x : Int} (h : w.cell? ad = some (.int .u64 x)) : (loadVar 35 ad).run Try.prog w = .ok (.int .u64 x) w := by simp [go_sem, h]
theorem kindB_len (x : Wr) : (kindB x).size ≤ 1 := by
  unfold kindB
  split
  · exact Nat.le_refl _
  · split
    · exact Nat.le_refl _
    · exact Nat.zero_le _
theorem SmallW.head {x : Wr} (h : SmallW x) : ∀ y ∈ headW x, y.size ≤ 100 := by
  intro y hy
  unfold headW at hy
  simp only [List.mem_cons, List.not_mem_nil, or_false] at hy
  rcases hy with rfl | rfl | rfl | rfl | rfl
  · exact h.a
  · exact Nat.le_trans (kindB_len x) (by decide)
  · show (num x.n).length ≤ 100
    have := num_len x.n; omega
  · exact h.b
  · exact h.c
theorem slots_len {L : List Sl} (hl : L.length ≤ 64) (h : ∀ y ∈ L, Small y) : (cat (L.map encSB)).length ≤ 14528 := by
  have h1 := cat_len (m := 227) (L := L.map encSB) (by
    intro y hy
    obtain ⟨s, hs, rfl⟩ := List.mem_map.1 hy
    exact encS_len (h s hs))
  rw [List.length_map] at h1
  omega
theorem encW_len {x : Wr} (h : SmallW x) : (encW x).length ≤ 15100 := by
  unfold encW
  have h1 := listL_len (txtL (headW x) ++ listL (cat (x.L.map encSB)))
  have h2 := listL_len (cat (x.L.map encSB))
  have h3 := slots_len h.l h.s
  have h4 := txtL_len h.head
  have h5 : (headW x).length = 5 := rfl
  rw [h5] at h4
  rw [List.length_append] at h1
  omega
theorem kind_any {w : World} {x : Wr} (_ : WrOk w x) : Calls Try.prog 63 #[wra x] w fun e w' => e = .returned (.string (kindB x)) ∧ Below w.heap.size w w' := by
  obtain ⟨W0, g, hW0, hg, hB0, h0, h1, h2, h3, h4, h5, h6⟩ := box_write w x
  have HB : Hid (Below w.heap.size w W0) := hB0
  have HG : Hid (w.heap.size = g) := hg
  clear hB0
  unfold kindB
  obtain ⟨xa, xg, xr, xn, xb, xc, xs, xL⟩ := x
  unfold wra wrC
  dsimp only at *
  cases xg with
  | true =>
    go_enter Try.func63, Try.ntmps63
    go_wp2_with fail
    go_ret
    refine ⟨rfl, ?_⟩; first | (rw [← HG.out]; exact HB.out) | exact below_new1 _ _
  | false =>
    cases xr with
    | true =>
      go_enter Try.func63, Try.ntmps63
      go_wp2_with fail
      go_ret
      refine ⟨rfl, ?_⟩; first | (rw [← HG.out]; exact HB.out) | exact below_new1 _ _
    | false =>
      go_enter Try.func63, Try.ntmps63
      go_wp2_with fail
      go_ret
      refine ⟨rfl, ?_⟩; first | (rw [← HG.out]; exact HB.out) | exact below_new1 _ _
set_option maxRecDepth 8000 in
set_option maxHeartbeats 4000000 in
theorem wenc_any {w : World} {x : Wr} (hx : WrOk w x) (hsm : SmallW x) : Calls Try.prog 38 #[wra x] w fun e w' => e = .returned (.string (encWB x)) ∧ Below w.heap.size w w' := by
  obtain ⟨p, c, hs⟩ := hx.shape
  obtain ⟨W0, g, hW0, hg, hB0, hh⟩ := box_write w x
  have HB : Hid (Below w.heap.size w W0) := hB0
  have HLD : Hid (∀ W, Below W0.heap.size W0 W → (loadVar 38 ⟨g, 0, none⟩).run Try.prog W = .ok (wra x) W) := fun W hW => ldWrite (hh.below hW)
  have heach := fun W (hW : Below w.heap.size w W) => eachL_any (hx.1.below hW) (by have := hsm.l; omega) encSB (fun y hy W' _ => senc_any (hsm.s y hy) W')
  have hkind := fun W (hW : Below w.heap.size w W) => kind_any (hx.below hW)
  have hnum := fun W => number_any x.n W hx.2
  have htx := fun W => texts_any (strs_new W 9 (headW x) 5 (Nat.le_refl _)) (by unfold headW; simp) (fun y hy => Nat.le_trans (hsm.head y hy) (by decide))
  have hsl : (x.L.map encSB).length ≤ 100000 ∧ (cat (x.L.map encSB)).length ≤ 100000000 := ⟨by rw [List.length_map]; have := hsm.l; omega, by have := slots_len hsm.l hsm.s; omega⟩
  have hfin := fun W => list_s (strs_new W 9 [⟨(txtL (headW x)).toArray⟩, ⟨(listL (cat (x.L.map encSB))).toArray⟩] 2 (Nat.le_refl _)) (by simp) (by
    have := encW_len hsm
    unfold encW listL at this
    simp [cat, listL] at this ⊢
    omega)
  have hout : encWB x = ⟨(listL (cat [⟨(txtL (headW x)).toArray⟩, ⟨(listL (cat (x.L.map encSB))).toArray⟩])).toArray⟩ := by
    unfold encWB encW
    simp [cat]
  rw [hout]
  clear hout hB0
  generalize listL (cat [⟨(txtL (headW x)).toArray⟩, ⟨(listL (cat (x.L.map encSB))).toArray⟩]) = R at hfin ⊢
  generalize txtL (headW x) = T at htx hfin
  have hlist := fun W v (hv : StrsAt W v (x.L.map encSB)) => list_s hv hsl.1 hsl.2
  generalize listL (cat (x.L.map encSB)) = S at hlist hfin
  generalize x.L.map encSB = K at *
  unfold headW at htx
  unfold numB at htx
  generalize kindB x = kx at *
  generalize num x.n = nx at *
  have c0 := hh.c0
  have c3 := hh.c3
  have c4 := hh.c4
  have c5 := hh.c5
  have c6 := hh.c6
  clear hh hx hsm hsl
  obtain ⟨xa, xg, xr, xn, xb, xc, xs, xL⟩ := x
  unfold wra wrC at *
  dsimp only at *
  subst hs
  have HEACH : Hid (∀ W, Below w.heap.size w W → Calls Try.prog 61 #[.slice p xL.length c, .func (.func 62) #[] #[]] W fun e w' => ∃ v', e = .returned v' ∧ OwnS w' W.heap.size v' K ∧ Below W.heap.size W w') := heach
  have HKIND : Hid (∀ W, Below w.heap.size w W → Calls Try.prog 63 #[.agg #[.string xa, .bool xg, .bool xr, .int .u64 (xn : Nat), .string xb, .string xc, .slice p xL.length c]] W fun e w' => e = .returned (.string kx) ∧ Below W.heap.size W w') := hkind
  have HNUM : Hid (∀ W, Calls Try.prog 37 #[.int .u64 (xn : Nat)] W fun e w' => e = .returned (.string ⟨nx.toArray⟩) ∧ Below W.heap.size W w') := hnum
  have HTX : Hid (∀ W : World, Calls Try.prog 36 #[.slice (some ⟨W.heap.size, 0, none⟩) 5 5] (W.alloc (.cells #[.string xa, .string kx, .string ⟨nx.toArray⟩, .string xb, .string xc] 9)) fun e w' => e = .returned (.string ⟨T.toArray⟩) ∧ Below (W.alloc (.cells #[.string xa, .string kx, .string ⟨nx.toArray⟩, .string xb, .string xc] 9)).heap.size (W.alloc (.cells #[.string xa, .string kx, .string ⟨nx.toArray⟩, .string xb, .string xc] 9)) w') := htx
  have HFIN : Hid (∀ W : World, Calls Try.prog 35 #[.slice (some ⟨W.heap.size, 0, none⟩) 2 2] (W.alloc (.cells #[.string ⟨T.toArray⟩, .string ⟨S.toArray⟩] 9)) fun e w' => e = .returned (.string ⟨R.toArray⟩) ∧ Below (W.alloc (.cells #[.string ⟨T.toArray⟩, .string ⟨S.toArray⟩] 9)).heap.size (W.alloc (.cells #[.string ⟨T.toArray⟩, .string ⟨S.toArray⟩] 9)) w') := hfin
  have HLIST : Hid (∀ W v, StrsAt W v K → Calls Try.prog 35 #[v] W fun e w' => e = .returned (.string ⟨S.toArray⟩) ∧ Below W.heap.size W w') := hlist
  clear heach hkind hnum htx hfin hlist
  go_enter Try.func38, Try.ntmps38
  go_wp2_with (go_at_call 61; refine (HEACH.out _ HB.out).mono ?_; rintro e w1 ⟨v1, rfl, hv1, hB1⟩; have hv1 := hv1.at; obtain ⟨p1, k1, rfl⟩ := hv1.shape)
  have d0 := keep_cell hB1 c0
  have d3 := keep_cell hB1 c3
  have d4 := keep_cell hB1 c4
  have d5 := keep_cell hB1 c5
  refine Dt.wp_region_tree (fun W => Below w1.heap.size w1 W) [0, 1, 2, 4, 5, 7, 8, 9, 10, 13] (.one 3 (.one 6 (.one 11 (.one 12 (.one 14 (.one 15 (.one 16 (.one 17 .nil)))))))) mixedP (by kernel_rfl) rfl (by kernel_rfl) (fun _ _ _ d _ h => by cases d <;> exact h) (Below.refl _ _).drew ?_
  refine Dt.tk_val (some 7) rfl rfl rfl (.pointer (some ⟨g, 0, none⟩)) (fun _ => by go_simp) ?_
  go_frame
  refine Dt.tk_ld (some 8) rfl rfl rfl _ _ rfl rfl (fun W hW => ldTxt (keep_cell hW d0)) ?_
  go_frame
  refine Dt.tk_ld (some 9) rfl rfl rfl _ _ rfl rfl (fun W hW => HLD.out W (below_new hB1 hW)) ?_
  go_frame
  refine Dt.tk_val (some 11) rfl rfl rfl (.pointer (some ⟨g, 3, none⟩)) (fun _ => by go_simp) ?_
  go_frame
  refine Dt.tk_ld (some 12) rfl rfl rfl _ _ rfl rfl (fun W hW => ldU64 (keep_cell hW d3)) ?_
  go_frame
  refine Dt.tk_val (some 14) rfl rfl rfl (.pointer (some ⟨g, 4, none⟩)) (fun _ => by go_simp) ?_
  go_frame
  refine Dt.tk_ld (some 15) rfl rfl rfl _ _ rfl rfl (fun W hW => ldTxt (keep_cell hW d4)) ?_
  go_frame
  refine Dt.tk_val (some 16) rfl rfl rfl (.pointer (some ⟨g, 5, none⟩)) (fun _ => by go_simp) ?_
  go_frame
  refine Dt.tk_ld (some 17) rfl rfl rfl _ _ rfl rfl (fun W hW => ldTxt (keep_cell hW d5)) ?_
  go_frame
  refine Dt.tk_val (some 20) rfl rfl rfl (.slice p1 K.length k1) (fun _ => by go_simp) ?_
  go_frame
  refine Dt.tk_nil ?_
  have hC0 : Below w1.heap.size w1 w1.drew := (Below.refl _ _).drew
  refine Dt.op_call (some 10) rfl rfl rfl (f := 63) (vs := #[.agg #[.string xa, .bool xg, .bool xr, .int .u64 (xn : Nat), .string xb, .string xc, .slice p xL.length c]]) (by go_simp) ((HKIND.out _ (below_new (below_new HB.out hB1) hC0)).mono ?_)
  rintro e w2 ⟨rfl, hB2⟩
  have hC2 := below_new hC0 hB2
  refine ⟨_, rfl, hC2, ?_⟩
  go_frame
  refine Dt.op_call (some 13) rfl rfl rfl (f := 37) (vs := #[.int .u64 (xn : Nat)]) (by go_simp) ((HNUM.out _).mono ?_)
  rintro e w3 ⟨rfl, hB3⟩
  have hC3 := below_new hC2 hB3
  refine ⟨_, rfl, hC3, ?_⟩
  go_frame
  refine Dt.op_val (some 18) rfl rfl rfl (v := .slice (some ⟨w3.heap.size, 0, none⟩) 5 5) (w' := w3.alloc (.cells #[.string xa, .string kx, .string ⟨nx.toArray⟩, .string xb, .string xc] 9)) (by go_simp) ?_
  have hC4 : Below w1.heap.size w1 (w3.alloc (.cells #[.string xa, .string kx, .string ⟨nx.toArray⟩, .string xb, .string xc] 9)) := below_new hC3 (below_new1 _ _)
  refine ⟨hC4, ?_⟩
  go_frame
  refine Dt.op_call (some 19) rfl rfl rfl (f := 36) (vs := #[.slice (some ⟨w3.heap.size, 0, none⟩) 5 5]) (by go_simp) ((HTX.out _).mono ?_)
  rintro e w5 ⟨rfl, hB5⟩
  have hC5 := below_new hC4 hB5
  refine ⟨_, rfl, hC5, ?_⟩
  go_frame
  refine Dt.op_call (some 21) rfl rfl rfl (f := 35) (vs := #[.slice p1 K.length k1]) (by go_simp) ((HLIST.out _ _ (hv1.below hC5)).mono ?_)
  rintro e w6 ⟨rfl, hB6⟩
  have hC6 := below_new hC5 hB6
  refine ⟨_, rfl, hC6, ?_⟩
  go_frame
  refine Dt.op_val (some 22) rfl rfl rfl (v := .slice (some ⟨w6.heap.size, 0, none⟩) 2 2) (w' := w6.alloc (.cells #[.string ⟨T.toArray⟩, .string ⟨S.toArray⟩] 9)) (by go_simp) ?_
  have hC7 : Below w1.heap.size w1 (w6.alloc (.cells #[.string ⟨T.toArray⟩, .string ⟨S.toArray⟩] 9)) := below_new hC6 (below_new1 _ _)
  refine ⟨hC7, ?_⟩
  go_frame
  refine Dt.op_call (some 23) rfl rfl rfl (f := 35) (vs := #[.slice (some ⟨w6.heap.size, 0, none⟩) 2 2]) (by go_simp) ((HFIN.out _).mono ?_)
  rintro e w8 ⟨rfl, hB8⟩
  have hC8 := below_new hC7 hB8
  refine ⟨_, rfl, hC8, ?_⟩
  go_frame
  refine Dt.op_val (some 2) rfl rfl rfl (v := .string ⟨R.toArray⟩) (w' := w8) (by go_simp) ?_
  refine ⟨hC8, ?_⟩
  go_frame
  refine then_normalJ ?_
  go_wp2_with fail
  go_ret
  exact ⟨rfl, below_new (below_new HB.out hB1) hC8⟩
end Go.Proofs.Ytadpopjhhanapaa
