/-
  Texts of this claim, put together.
-/
import Derived.Test.YtadpopjhhanapaaJSameW
import Derived.Test.YtadpopjhhanapaaRefNumW
import Derived.Test.YtadpopjhhanapaaKD
import Derived.Test.YtadpopjhhanapaaJByt2W
/-
  The document's bytes of a block.
-/
namespace Go.Proofs.Ytadpopjhhanapaa
open Go Go.RowKit

theorem appL (a b : ByteArray) : (a ++ b).data.toList = a.data.toList ++ b.data.toList := by simp
theorem app_mk (a b : ByteArray) : a ++ b = ⟨(a.data.toList ++ b.data.toList).toArray⟩ := ByteArray.ext (by apply Array.toList_inj.1; simp)
theorem cat_snoc (l : List ByteArray) (x : ByteArray) : cat (l ++ [x]) = cat l ++ x.data.toList := by simp [cat]
section
variable {ops : Array Oper} {rest : List Oper} {op : Oper} {a : Act} {C : World → Prop} {Q : Act → Prop}
theorem run_addJ (x y : Operand) {u v : ByteArray} (ρ : Operand → Value) (hx : ρ x = .string u) (hy : ρ y = .string v) (ho : op.op = .binOp .add 9 x y 9) (hs : u.size + v.size ≤ 9223372036854775807) (w : World) : (execOp ρ op).run Try.prog w = .ok (.value (.string (u ++ v))) w := by
  have h : ¬ (9223372036854775807 < u.size + v.size) := by omega
  unfold execOp
  simp [ho, hx, hy, go_sem, h]
theorem wpQ_addJ (x y : Operand) (ho : op.op = .binOp .add 9 x y 9) {u v R : ByteArray} (hx : a.eval x = .string u) (hy : a.eval y = .string v) (hs : u.size + v.size ≤ 9223372036854775807) (hR : u ++ v = R) (hw : Region.wanted op (yielded ops a.tmps) = true)
    (h : wpQuiet Try.prog ops C Q rest (a.put op.dst (.string R))) : wpQuiet Try.prog ops C Q (op :: rest) a :=
  wpQ_val hw _ (fun w => by rw [run_addJ x y a.eval hx hy ho hs w, hR]) h
end
section
variable {ops : Array Oper} {rest : List Oper} {op : Oper} {a : Act} {Q : Exit → Act → World → Prop} {w : World}
theorem wpList_addJ (x y : Operand) (ho : op.op = .binOp .add 9 x y 9) {u v : ByteArray} (hx : a.eval x = .string u) (hy : a.eval y = .string v) (hs : u.size + v.size ≤ 9223372036854775807) (hw : Region.wanted op (yielded ops a.tmps) = true)
    (h : wpList Try.prog ops Q rest (a.put op.dst (.string (u ++ v))) w) : wpList Try.prog ops Q (op :: rest) a w :=
  wpList_step fun _ hK => by
    rw [if_pos hw]
    unfold Oper.wp
    rw [run_addJ x y a.eval hx hy ho hs w]
    exact hK _ _ h
end
theorem qlist_block {n : Nat} {L : List Wr} (hl : L.length ≤ 64) (hs : ∀ x ∈ L, SmallW x) (W : World) : Calls Try.prog 39 #[.string (one1 (numB n) ++ ⟨(listL (cat (L.map encWB))).toArray⟩)] W fun e w' => e = .returned (.string ⟨(encBk n L).toArray⟩) ∧ Below W.heap.size W w' := by
  have e : (one1 (numB n) ++ ⟨(listL (cat (L.map encWB))).toArray⟩ : ByteArray).data.toList = txtL [numB n] ++ listL (cat (L.map encWB)) := by
    rw [appL]
    simp [txtL]
    rfl
  have h1 := writes_len hl hs
  have h2 := listL_len (cat (L.map encWB))
  have h3 := txtL_len (m := 8) (L := [numB n]) (fun y hy => by rw [List.mem_singleton.1 hy]; exact num_len n)
  simp only [List.length_cons, List.length_nil] at h3
  have := refList_any (one1 (numB n) ++ ⟨(listL (cat (L.map encWB))).toArray⟩ : ByteArray) W (by rw [← sizeB, e, List.length_append]; omega)
  rw [e] at this
  exact this
theorem one1_size (x : ByteArray) : (one1 x).size ≤ x.size + 9 := by
  have := bytesL_len x.data.toList
  rw [sizeB] at this
  exact this
theorem one1_data (x : ByteArray) : (one1 x).data.toList = bytesL x.data.toList := rfl
theorem qlist_slot {x : Sl} (h : Small x) (W : World) : Calls Try.prog 39 #[.string (one1 x.k ++ one1 x.v)] W fun e w' => e = .returned (.string (encSB x)) ∧ Below W.heap.size W w' := by
  have e : (one1 x.k ++ one1 x.v).data.toList = txtL [x.k, x.v] := by rw [appL]; simp [txtL, one1_data]
  have hl := encS_len h
  unfold encS at hl
  have h1 := listL_ge (txtL [x.k, x.v])
  have := refList_any (one1 x.k ++ one1 x.v) W (by rw [← sizeB, e]; omega)
  rw [e] at this
  exact this
theorem qlist_row {l : List ByteArray} (h : (cat l).length ≤ 1000000) (W : World) : Calls Try.prog 39 #[.string ⟨(cat l).toArray⟩] W fun e w' => e = .returned (.string ⟨(listL (cat l)).toArray⟩) ∧ Below W.heap.size W w' :=
  refList_any ⟨(cat l).toArray⟩ W (by show (cat l).length < _; omega)
theorem qlist_write {x : Wr} (h : SmallW x) (W : World) : Calls Try.prog 39 #[.string (((((one1 x.a ++ one1 (kindB x)) ++ one1 (numB x.n)) ++ one1 x.b) ++ one1 x.c) ++ ⟨(listL (cat (x.L.map encSB))).toArray⟩)] W fun e w' => e = .returned (.string (encWB x)) ∧ Below W.heap.size W w' := by
  have e : ((((((one1 x.a ++ one1 (kindB x)) ++ one1 (numB x.n)) ++ one1 x.b) ++ one1 x.c) ++ ⟨(listL (cat (x.L.map encSB))).toArray⟩ : ByteArray)).data.toList = txtL (headW x) ++ listL (cat (x.L.map encSB)) := by
    simp only [appL]
    simp [txtL, headW, one1_data]
  have hl := encW_len h
  unfold encW at hl
  have h1 := listL_ge (txtL (headW x) ++ listL (cat (x.L.map encSB)))
  have := refList_any ((((((one1 x.a ++ one1 (kindB x)) ++ one1 (numB x.n)) ++ one1 x.b) ++ one1 x.c) ++ ⟨(listL (cat (x.L.map encSB))).toArray⟩ : ByteArray)) W (by rw [← sizeB, e]; omega)
  rw [e] at this
  exact this
theorem qbytes_one (x : ByteArray) (h : x.size ≤ 1000) (W : World) : Calls Try.prog 40 #[.string x] W fun e w' => e = .returned (.string (one1 x)) ∧ Below W.heap.size W w' := refBytes_any x W (by omega)
theorem acc_slot {l : List Sl} {j : Nat} {x : Sl} (hx : l[j]? = some x) : (⟨(cat ((l.take j).map encSB)).toArray⟩ : ByteArray) ++ encSB x = ⟨(cat ((l.take (j + 1)).map encSB)).toArray⟩ := by
  rw [app_mk, List.take_add_one, hx, List.map_append]
  simp only [Option.toList_some, List.map_cons, List.map_nil, cat_snoc]
theorem acc_write {l : List Wr} {j : Nat} {x : Wr} (hx : l[j]? = some x) : (⟨(cat ((l.take j).map encWB)).toArray⟩ : ByteArray) ++ encWB x = ⟨(cat ((l.take (j + 1)).map encWB)).toArray⟩ := by
  rw [app_mk, List.take_add_one, hx, List.map_append]
  simp only [Option.toList_some, List.map_cons, List.map_nil, cat_snoc]
set_option maxRecDepth 8000 in
set_option maxHeartbeats 16000000 in
theorem qenc_any {w : World} {n : Nat} {v : Value} {L : List Wr} (hv : WritesAt w v L) (hn : n ≤ 2147483647) (hl : L.length ≤ 64) (hs : ∀ x ∈ L, SmallW x ∧ ¬ (x.g = true ∧ x.r = true)) : Calls Try.prog 23 #[blkV (n : Int) v] w fun e w' => e = .returned (.string ⟨(encBk n L).toArray⟩) ∧ Below w.heap.size w w' := by
  obtain ⟨p, c, rfl⟩ := hv.shape
  obtain ⟨W0, g, hW0, hg, hB0, hb0, c0, -⟩ := box_block w n (.slice p L.length c)
  have HB : Hid (Below w.heap.size w W0) := hB0
  have HG : Hid (w.heap.size = g) := hg
  have HV : Hid (WritesAt W0 (.slice p L.length c) L) := hv.below hB0
  have HSM : Hid (∀ x ∈ L, SmallW x ∧ ¬ (x.g = true ∧ x.r = true)) := hs
  obtain ⟨N, hN⟩ : ∃ N, L.length = N := ⟨_, rfl⟩
  have HN : Hid (L.length = N) := hN
  rw [hN] at hl hW0 hb0 HV ⊢
  have HH : Hid (Holds W0 g 24 #[.int .i64 n, .slice p N c]) := hb0
  clear hN hb0 hv hB0 hs c0
  have hni : (N : Int) ≤ 64 := by omega
  unfold blkV
  go_enter Try.func23, Try.ntmps23
  go_wp2_with fail
  go_loopw [3, 4] (fun z y wr => ∃ i : Nat, y = .int .i64 (i : Nat) ∧ z = .string ⟨(cat ((L.take i).map encWB)).toArray⟩ ∧ i ≤ N ∧ Below W0.heap.size W0 wr) (fun _ y _ => N - (intOf y).toNat)
  case atStart => exact ⟨0, rfl, rfl, Nat.zero_le _, Below.refl _ _⟩
  case round =>
    obtain ⟨i, rfl, rfl, hi, hB⟩ := hrel
    have K0 := below_holds hB HH.out
    have k0 := K0.cell 0
    have k1 := K0.cell 1
    simp at k0 k1
    by_cases hiN : i < N
    · have hii : (i : Int) < N := by omega
      obtain ⟨x, hx⟩ : ∃ x, L[i]? = some x := ⟨_, List.getElem?_eq_getElem (by have := HN.out; omega)⟩
      have hvr := HV.out.below hB
      have okx := (hvr.1 x (List.mem_of_getElem? hx)).1
      have hxn := (hvr.1 x (List.mem_of_getElem? hx)).2
      have hsm := (HSM.out x (List.mem_of_getElem? hx)).1
      have hgr := (HSM.out x (List.mem_of_getElem? hx)).2
      have HACC : Hid ((⟨(cat ((L.take i).map encWB)).toArray⟩ : ByteArray) ++ encWB x = ⟨(cat ((L.take (i + 1)).map encWB)).toArray⟩) := acc_write hx
      obtain ⟨b, o, rfl, -, q0, q1, q2, q3, q4, q5, q6⟩ := hvr.at hx
      have HLW : Hid (∀ W, Calls Try.prog 39 #[.string (((((one1 x.a ++ one1 (kindB x)) ++ one1 (numB x.n)) ++ one1 x.b) ++ one1 x.c) ++ ⟨(listL (cat (x.L.map encSB))).toArray⟩)] W fun e w' => e = .returned (.string (encWB x)) ∧ Below W.heap.size W w') := fun W => qlist_write hsm W
      have HLS : Hid (∀ W, Calls Try.prog 39 #[.string ⟨(cat (x.L.map encSB)).toArray⟩] W fun e w' => e = .returned (.string ⟨(listL (cat (x.L.map encSB))).toArray⟩) ∧ Below W.heap.size W w') := fun W => qlist_row (by have := slots_len hsm.l hsm.s; omega) W
      have HBA : Hid (∀ W, Calls Try.prog 40 #[.string x.a] W fun e w' => e = .returned (.string (one1 x.a)) ∧ Below W.heap.size W w') := fun W => qbytes_one _ (by have := hsm.a; omega) W
      have HBB : Hid (∀ W, Calls Try.prog 40 #[.string x.b] W fun e w' => e = .returned (.string (one1 x.b)) ∧ Below W.heap.size W w') := fun W => qbytes_one _ (by have := hsm.b; omega) W
      have HBC : Hid (∀ W, Calls Try.prog 40 #[.string x.c] W fun e w' => e = .returned (.string (one1 x.c)) ∧ Below W.heap.size W w') := fun W => qbytes_one _ (by have := hsm.c; omega) W
      have HBK : Hid (∀ W, Calls Try.prog 40 #[.string (kindB x)] W fun e w' => e = .returned (.string (one1 (kindB x))) ∧ Below W.heap.size W w') := fun W => qbytes_one _ (by have := kindB_len x; omega) W
      have HBN : Hid (∀ W, Calls Try.prog 40 #[.string (numB x.n)] W fun e w' => e = .returned (.string (one1 (numB x.n))) ∧ Below W.heap.size W w') := fun W => qbytes_one _ (by have : (numB x.n).size ≤ 8 := num_len x.n; omega) W
      have HNU : Hid (∀ W, Calls Try.prog 41 #[.int .u64 (x.n : Nat)] W fun e w' => e = .returned (.string (numB x.n)) ∧ Below W.heap.size W w') := fun W => refNumber_any x.n W hxn
      have HZ : Hid ((one1 x.a).size ≤ 200 ∧ (one1 (kindB x)).size ≤ 200 ∧ (one1 (numB x.n)).size ≤ 200 ∧ (one1 x.b).size ≤ 200 ∧ (one1 x.c).size ≤ 200 ∧ (⟨(listL (cat (x.L.map encSB))).toArray⟩ : ByteArray).size ≤ 20000 ∧ (encWB x).size ≤ 20000 ∧ (⟨(cat ((L.take i).map encWB)).toArray⟩ : ByteArray).size ≤ 1000000) := by
        have h1 := one1_size x.a
        have h2 := one1_size (kindB x)
        have h3 := one1_size (numB x.n)
        have h4 := one1_size x.b
        have h5 := one1_size x.c
        have h6 := kindB_len x
        have h7 : (numB x.n).size ≤ 8 := num_len x.n
        have h8 := listL_len (cat (x.L.map encSB))
        have h9 := slots_len hsm.l hsm.s
        have h10 := encW_len hsm
        have h11 := writes_len (L := L.take i) (by rw [List.length_take]; have := HN.out; omega) (fun y hy => (HSM.out y (List.mem_of_mem_take hy)).1)
        have h12 := hsm.a
        have h13 := hsm.b
        have h14 := hsm.c
        refine ⟨by omega, by omega, by omega, by omega, by omega, ?_, ?_, ?_⟩
        · show (listL (cat (x.L.map encSB))).length ≤ _; omega
        · show (encW x).length ≤ _; omega
        · show (cat ((L.take i).map encWB)).length ≤ _; omega
      have hsl := hsm.l
      have HSS : Hid (∀ s ∈ x.L, Small s) := hsm.s
      have hkg : kindB x = (if x.g = true then ⟨#[1]⟩ else if x.r = true then ⟨#[2]⟩ else ⟨#[]⟩) := rfl
      generalize encWB x = EW at HACC HLW HZ
      generalize kindB x = kx at hkg HLW HBK HZ
      generalize numB x.n = nx at HLW HBN HNU HZ
      obtain ⟨xa, xg, xr, xn, xb, xc, xs, xL⟩ := x
      dsimp only at *
      obtain ⟨sp, sc, rfl⟩ := okx.shape
      obtain ⟨V1, gx, hV1, hgx, hBV1, hxw⟩ := box_write wr ⟨xa, xg, xr, xn, xb, xc, .slice sp xL.length sc, xL⟩
      dsimp only at hV1
      have okv := okx.below hBV1
      obtain ⟨x0, x1, x2, x3, x4, x5, x6⟩ := hxw
      dsimp only at x0 x1 x2 x3 x4 x5 x6
      obtain ⟨S, hS⟩ : ∃ S, xL.length = S := ⟨_, rfl⟩
      have HS : Hid (xL.length = S) := hS
      rw [hS] at q6 hV1 x6 okv hsl
      have HX : Hid (V1.cell? ⟨gx, 0, none⟩ = some (.string xa) ∧ V1.cell? ⟨gx, 1, none⟩ = some (.bool xg) ∧ V1.cell? ⟨gx, 2, none⟩ = some (.bool xr) ∧ V1.cell? ⟨gx, 3, none⟩ = some (.int .u64 (xn : Nat)) ∧ V1.cell? ⟨gx, 4, none⟩ = some (.string xb) ∧ V1.cell? ⟨gx, 5, none⟩ = some (.string xc) ∧ V1.cell? ⟨gx, 6, none⟩ = some (.slice sp S sc)) := ⟨x0, by simpa using x1, by simpa using x2, by simpa using x3, by simpa using x4, by simpa using x5, by simpa using x6⟩
      have HSX : Hid (SlotsAt V1 (.slice sp S sc) xL) := okv
      have HBV : Hid (Below W0.heap.size W0 V1) := below_new hB hBV1
      have hSi : (S : Int) ≤ 64 := by omega
      clear hS hvr okx okv hsm hx hB hBV1 K0
      go_wp2_with fail
      clear q0 q1 q2 q3 q4 q5 q6 x0 x1 x2 x3 x4 x5 x6 hV1 hgx k0 k1
      go_loopw [6, 7] (fun z y w2 => ∃ j : Nat, y = .int .i64 (j : Nat) ∧ z = .string ⟨(cat ((xL.take j).map encSB)).toArray⟩ ∧ j ≤ S ∧ Below V1.heap.size V1 w2) (fun _ y _ => S - (intOf y).toNat)
      case atStart => exact ⟨0, rfl, rfl, Nat.zero_le _, Below.refl _ _⟩
      case round =>
        obtain ⟨j, rfl, rfl, hj, hBj⟩ := hrel
        have e6 := keep_cell hBj HX.out.2.2.2.2.2.2
        by_cases hjS : j < S
        · have hji : (j : Int) < S := by omega
          obtain ⟨s, hs⟩ : ∃ s, xL[j]? = some s := ⟨_, List.getElem?_eq_getElem (by have := HS.out; omega)⟩
          have hsms := HSS.out s (List.mem_of_getElem? hs)
          obtain ⟨bs, os, rfl, -, f0, f1⟩ := (HSX.out.below hBj).at hs
          have HA2 : Hid ((⟨(cat ((xL.take j).map encSB)).toArray⟩ : ByteArray) ++ encSB s = ⟨(cat ((xL.take (j + 1)).map encSB)).toArray⟩) := acc_slot hs
          have HK1 : Hid (∀ W, Calls Try.prog 40 #[.string s.k] W fun e w' => e = .returned (.string (one1 s.k)) ∧ Below W.heap.size W w') := fun W => qbytes_one _ (by have := hsms.1; omega) W
          have HK2 : Hid (∀ W, Calls Try.prog 40 #[.string s.v] W fun e w' => e = .returned (.string (one1 s.v)) ∧ Below W.heap.size W w') := fun W => qbytes_one _ (by have := hsms.2; omega) W
          have HK3 : Hid (∀ W, Calls Try.prog 39 #[.string (one1 s.k ++ one1 s.v)] W fun e w' => e = .returned (.string (encSB s)) ∧ Below W.heap.size W w') := fun W => qlist_slot hsms W
          have HZ1 : Hid ((one1 s.k).size + (one1 s.v).size ≤ 9223372036854775807) := by have h1 := one1_size s.k; have h2 := one1_size s.v; have := hsms.1; have := hsms.2; show _ ≤ _; omega
          have HZ2 : Hid ((⟨(cat ((xL.take j).map encSB)).toArray⟩ : ByteArray).size + (encSB s).size ≤ 9223372036854775807) := by
            have h1 := encS_len hsms
            have h2 := slots_len (L := xL.take j) (by rw [List.length_take]; have := HS.out; omega) (fun y hy => HSS.out y (List.mem_of_mem_take hy))
            show (cat ((xL.take j).map encSB)).length + (encS s).length ≤ _
            omega
          generalize encSB s = ES at HA2 HK3 HZ2
          generalize one1 s.k = o1 at HK1 HK3 HZ1
          generalize one1 s.v = o2 at HK2 HK3 HZ1
          clear hs hsms
          obtain ⟨sk, sv⟩ := s
          dsimp only at *
          go_wp2_with fail
          refine wp_region_class (fun W => Below wr.heap.size wr W) mixedP (by kernel_rfl) (Below.refl _ _).drew ?_
          go_big_quiet_step (exact fun _ => rfl)
          go_big_quiet_step (exact fun _ => rfl)
          refine wpQ_ld rfl _ _ rfl rfl (fun W hW => ldSl (keep_cell hW e6)) ?_
          go_frame
          go_big_quiet_step (exact fun _ => rfl)
          go_big_quiet_step (exact fun _ => rfl)
          go_big_quiet_step (exact fun _ => rfl)
          refine wpQ_ld rfl _ _ rfl rfl (fun W hW => ldTxt (keep_cell hW f0)) ?_
          go_frame
          refine wpQ_call rfl 40 #[.string sk] (fun _ => by go_simp) (.string o1) (fun W hW => (HK1.out W).mono fun e w' h => ⟨h.1, below_new hW h.2⟩) ?_
          go_frame
          go_big_quiet_step (exact fun _ => rfl)
          refine wpQ_ld rfl _ _ rfl rfl (fun W hW => ldSl (keep_cell hW e6)) ?_
          go_frame
          go_big_quiet_step (exact fun _ => rfl)
          go_big_quiet_step (exact fun _ => rfl)
          go_big_quiet_step (exact fun _ => rfl)
          refine wpQ_ld rfl _ _ rfl rfl (fun W hW => ldTxt (keep_cell hW f1)) ?_
          go_frame
          refine wpQ_call rfl 40 #[.string sv] (fun _ => by go_simp) (.string o2) (fun W hW => (HK2.out W).mono fun e w' h => ⟨h.1, below_new hW h.2⟩) ?_
          go_frame
          refine wpQ_addJ _ _ rfl rfl rfl HZ1.out rfl rfl ?_
          go_frame
          refine wpQ_call rfl 39 #[.string (o1 ++ o2)] (fun _ => by go_simp) (.string ES) (fun W hW => (HK3.out W).mono fun e w' h => ⟨h.1, below_new hW h.2⟩) ?_
          go_frame
          refine wpQ_addJ _ _ rfl rfl rfl HZ2.out HA2.out rfl ?_
          go_frame
          go_big_quiet_step (exact fun _ => rfl)
          refine wpQuiet_nil ?_
          intro w7 hB7
          simp only [Exit.inBlock, Exit.then]
          go_at_K
          have H7 := below_new hBj hB7
          clear hBj hB7 e6 f0 f1
          go_wp2_with fail
          exact ⟨⟨j + 1, by go_num, rfl, by omega, H7⟩, by simp [intOf]; omega⟩
        · have hji : ¬ (j : Int) < S := by omega
          have HE : Hid ((xL.take j).map encSB = xL.map encSB) := by
            show _ = _
            rw [List.take_of_length_le (by have := HS.out; omega)]
          rw [HE.out]
          have y0 := keep_cell hBj HX.out.1
          have y1 := keep_cell hBj HX.out.2.1
          have y2 := keep_cell hBj HX.out.2.2.1
          have y3 := keep_cell hBj HX.out.2.2.2.1
          have y4 := keep_cell hBj HX.out.2.2.2.2.1
          have y5 := keep_cell hBj HX.out.2.2.2.2.2.1
          have H8 : Hid (Below W0.heap.size W0 wr) := below_new HBV.out hBj
          clear hBj
          have hgr2 := hgr
          cases xg with
          | true =>
            obtain rfl : xr = false := by cases xr <;> simp_all
            obtain rfl : kx = ⟨#[1]⟩ := hkg
            go_wp2_with fail
            refine wp_region_class (fun W => Below wr.heap.size wr W) mixedP (by kernel_rfl) (Below.refl _ _).drew ?_
            go_big_quiet_step (exact fun _ => rfl)
            go_big_quiet_step (exact fun _ => rfl)
            refine wpQ_ld rfl _ _ rfl rfl (fun W hW => ldTxt (keep_cell hW y0)) ?_
            go_frame
            refine wpQ_call rfl 40 #[.string xa] (fun _ => by go_simp) (.string (one1 xa)) (fun W hW => (HBA.out W).mono fun e w' h => ⟨h.1, below_new hW h.2⟩) ?_
            go_frame
            go_big_quiet_step (exact fun _ => rfl)
            refine wpQ_call rfl 40 #[.string _] (fun _ => by go_simp) (.string (one1 _)) (fun W hW => (HBK.out W).mono fun e w' h => ⟨h.1, below_new hW h.2⟩) ?_
            go_frame
            refine wpQ_addJ  _ _ rfl rfl rfl (by
              obtain ⟨z1, z2, z3, z4, z5, z6, z7, z8⟩ := HZ.out
              try simp only [ByteArray.size_append]
              try rw [List.map_take] at z8
              omega) rfl rfl ?_
            go_frame
            go_big_quiet_step (exact fun _ => rfl)
            refine wpQ_ld rfl _ _ rfl rfl (fun W hW => ldU64 (keep_cell hW y3)) ?_
            go_frame
            refine wpQ_call rfl 41 #[.int .u64 (xn : Nat)] (fun _ => by go_simp) (.string nx) (fun W hW => (HNU.out W).mono fun e w' h => ⟨h.1, below_new hW h.2⟩) ?_
            go_frame
            refine wpQ_call rfl 40 #[.string nx] (fun _ => by go_simp) (.string (one1 nx)) (fun W hW => (HBN.out W).mono fun e w' h => ⟨h.1, below_new hW h.2⟩) ?_
            go_frame
            refine wpQ_addJ  _ _ rfl rfl rfl (by
              obtain ⟨z1, z2, z3, z4, z5, z6, z7, z8⟩ := HZ.out
              try simp only [ByteArray.size_append]
              try rw [List.map_take] at z8
              omega) rfl rfl ?_
            go_frame
            go_big_quiet_step (exact fun _ => rfl)
            refine wpQ_ld rfl _ _ rfl rfl (fun W hW => ldTxt (keep_cell hW y4)) ?_
            go_frame
            refine wpQ_call rfl 40 #[.string xb] (fun _ => by go_simp) (.string (one1 xb)) (fun W hW => (HBB.out W).mono fun e w' h => ⟨h.1, below_new hW h.2⟩) ?_
            go_frame
            refine wpQ_addJ  _ _ rfl rfl rfl (by
              obtain ⟨z1, z2, z3, z4, z5, z6, z7, z8⟩ := HZ.out
              try simp only [ByteArray.size_append]
              try rw [List.map_take] at z8
              omega) rfl rfl ?_
            go_frame
            go_big_quiet_step (exact fun _ => rfl)
            refine wpQ_ld rfl _ _ rfl rfl (fun W hW => ldTxt (keep_cell hW y5)) ?_
            go_frame
            refine wpQ_call rfl 40 #[.string xc] (fun _ => by go_simp) (.string (one1 xc)) (fun W hW => (HBC.out W).mono fun e w' h => ⟨h.1, below_new hW h.2⟩) ?_
            go_frame
            refine wpQ_addJ  _ _ rfl rfl rfl (by
              obtain ⟨z1, z2, z3, z4, z5, z6, z7, z8⟩ := HZ.out
              try simp only [ByteArray.size_append]
              try rw [List.map_take] at z8
              omega) rfl rfl ?_
            go_frame
            go_big_quiet_step (exact fun _ => rfl)
            refine wpQ_call rfl 39 #[.string ⟨(cat (xL.map encSB)).toArray⟩] (fun _ => by go_simp) (.string ⟨(listL (cat (xL.map encSB))).toArray⟩) (fun W hW => (HLS.out W).mono fun e w' h => ⟨h.1, below_new hW h.2⟩) ?_
            go_frame
            refine wpQ_addJ  _ _ rfl rfl rfl (by
              obtain ⟨z1, z2, z3, z4, z5, z6, z7, z8⟩ := HZ.out
              try simp only [ByteArray.size_append]
              try rw [List.map_take] at z8
              omega) rfl rfl ?_
            go_frame
            refine wpQ_call rfl 39 _ (fun _ => by go_simp) (.string EW) (fun W hW => (HLW.out W).mono fun e w' h => ⟨h.1, below_new hW h.2⟩) ?_
            go_frame
            refine wpQ_addJ (R := ⟨(cat ((L.take (i + 1)).map encWB)).toArray⟩) _ _ rfl rfl rfl (by
              obtain ⟨z1, z2, z3, z4, z5, z6, z7, z8⟩ := HZ.out
              try simp only [ByteArray.size_append]
              try rw [List.map_take] at z8
              omega) (by rw [← List.map_take]; exact HACC.out) rfl ?_
            go_frame
            go_big_quiet_step (exact fun _ => rfl)
            refine wpQuiet_nil ?_
            intro w9 hB9
            simp only [Exit.inBlock, Exit.then]
            go_at_K
            have H9 := below_new H8.out hB9
            clear hB9 y0 y1 y2 y3 y4 y5 e6
            go_wp2_with fail
            exact ⟨⟨i + 1, by go_num, rfl, by omega, H9⟩, by simp [intOf]; omega⟩
          | false =>
            cases xr with
            | true =>
              obtain rfl : kx = ⟨#[2]⟩ := hkg
              go_wp2_with fail
              refine wp_region_class (fun W => Below wr.heap.size wr W) mixedP (by kernel_rfl) (Below.refl _ _).drew ?_
              go_big_quiet_step (exact fun _ => rfl)
              go_big_quiet_step (exact fun _ => rfl)
              refine wpQ_ld rfl _ _ rfl rfl (fun W hW => ldTxt (keep_cell hW y0)) ?_
              go_frame
              refine wpQ_call rfl 40 #[.string xa] (fun _ => by go_simp) (.string (one1 xa)) (fun W hW => (HBA.out W).mono fun e w' h => ⟨h.1, below_new hW h.2⟩) ?_
              go_frame
              go_big_quiet_step (exact fun _ => rfl)
              refine wpQ_call rfl 40 #[.string _] (fun _ => by go_simp) (.string (one1 _)) (fun W hW => (HBK.out W).mono fun e w' h => ⟨h.1, below_new hW h.2⟩) ?_
              go_frame
              refine wpQ_addJ  _ _ rfl rfl rfl (by
                obtain ⟨z1, z2, z3, z4, z5, z6, z7, z8⟩ := HZ.out
                try simp only [ByteArray.size_append]
                try rw [List.map_take] at z8
                omega) rfl rfl ?_
              go_frame
              go_big_quiet_step (exact fun _ => rfl)
              refine wpQ_ld rfl _ _ rfl rfl (fun W hW => ldU64 (keep_cell hW y3)) ?_
              go_frame
              refine wpQ_call rfl 41 #[.int .u64 (xn : Nat)] (fun _ => by go_simp) (.string nx) (fun W hW => (HNU.out W).mono fun e w' h => ⟨h.1, below_new hW h.2⟩) ?_
              go_frame
              refine wpQ_call rfl 40 #[.string nx] (fun _ => by go_simp) (.string (one1 nx)) (fun W hW => (HBN.out W).mono fun e w' h => ⟨h.1, below_new hW h.2⟩) ?_
              go_frame
              refine wpQ_addJ  _ _ rfl rfl rfl (by
                obtain ⟨z1, z2, z3, z4, z5, z6, z7, z8⟩ := HZ.out
                try simp only [ByteArray.size_append]
                try rw [List.map_take] at z8
                omega) rfl rfl ?_
              go_frame
              go_big_quiet_step (exact fun _ => rfl)
              refine wpQ_ld rfl _ _ rfl rfl (fun W hW => ldTxt (keep_cell hW y4)) ?_
              go_frame
              refine wpQ_call rfl 40 #[.string xb] (fun _ => by go_simp) (.string (one1 xb)) (fun W hW => (HBB.out W).mono fun e w' h => ⟨h.1, below_new hW h.2⟩) ?_
              go_frame
              refine wpQ_addJ  _ _ rfl rfl rfl (by
                obtain ⟨z1, z2, z3, z4, z5, z6, z7, z8⟩ := HZ.out
                try simp only [ByteArray.size_append]
                try rw [List.map_take] at z8
                omega) rfl rfl ?_
              go_frame
              go_big_quiet_step (exact fun _ => rfl)
              refine wpQ_ld rfl _ _ rfl rfl (fun W hW => ldTxt (keep_cell hW y5)) ?_
              go_frame
              refine wpQ_call rfl 40 #[.string xc] (fun _ => by go_simp) (.string (one1 xc)) (fun W hW => (HBC.out W).mono fun e w' h => ⟨h.1, below_new hW h.2⟩) ?_
              go_frame
              refine wpQ_addJ  _ _ rfl rfl rfl (by
                obtain ⟨z1, z2, z3, z4, z5, z6, z7, z8⟩ := HZ.out
                try simp only [ByteArray.size_append]
                try rw [List.map_take] at z8
                omega) rfl rfl ?_
              go_frame
              go_big_quiet_step (exact fun _ => rfl)
              refine wpQ_call rfl 39 #[.string ⟨(cat (xL.map encSB)).toArray⟩] (fun _ => by go_simp) (.string ⟨(listL (cat (xL.map encSB))).toArray⟩) (fun W hW => (HLS.out W).mono fun e w' h => ⟨h.1, below_new hW h.2⟩) ?_
              go_frame
              refine wpQ_addJ  _ _ rfl rfl rfl (by
                obtain ⟨z1, z2, z3, z4, z5, z6, z7, z8⟩ := HZ.out
                try simp only [ByteArray.size_append]
                try rw [List.map_take] at z8
                omega) rfl rfl ?_
              go_frame
              refine wpQ_call rfl 39 _ (fun _ => by go_simp) (.string EW) (fun W hW => (HLW.out W).mono fun e w' h => ⟨h.1, below_new hW h.2⟩) ?_
              go_frame
              refine wpQ_addJ (R := ⟨(cat ((L.take (i + 1)).map encWB)).toArray⟩) _ _ rfl rfl rfl (by
                obtain ⟨z1, z2, z3, z4, z5, z6, z7, z8⟩ := HZ.out
                try simp only [ByteArray.size_append]
                try rw [List.map_take] at z8
                omega) (by rw [← List.map_take]; exact HACC.out) rfl ?_
              go_frame
              go_big_quiet_step (exact fun _ => rfl)
              refine wpQuiet_nil ?_
              intro w9 hB9
              simp only [Exit.inBlock, Exit.then]
              go_at_K
              have H9 := below_new H8.out hB9
              clear hB9 y0 y1 y2 y3 y4 y5 e6
              go_wp2_with fail
              exact ⟨⟨i + 1, by go_num, rfl, by omega, H9⟩, by simp [intOf]; omega⟩
            | false =>
              obtain rfl : kx = ⟨#[]⟩ := hkg
              go_wp2_with fail
              refine wp_region_class (fun W => Below wr.heap.size wr W) mixedP (by kernel_rfl) (Below.refl _ _).drew ?_
              go_big_quiet_step (exact fun _ => rfl)
              go_big_quiet_step (exact fun _ => rfl)
              refine wpQ_ld rfl _ _ rfl rfl (fun W hW => ldTxt (keep_cell hW y0)) ?_
              go_frame
              refine wpQ_call rfl 40 #[.string xa] (fun _ => by go_simp) (.string (one1 xa)) (fun W hW => (HBA.out W).mono fun e w' h => ⟨h.1, below_new hW h.2⟩) ?_
              go_frame
              go_big_quiet_step (exact fun _ => rfl)
              refine wpQ_call rfl 40 #[.string _] (fun _ => by go_simp) (.string (one1 _)) (fun W hW => (HBK.out W).mono fun e w' h => ⟨h.1, below_new hW h.2⟩) ?_
              go_frame
              refine wpQ_addJ  _ _ rfl rfl rfl (by
                obtain ⟨z1, z2, z3, z4, z5, z6, z7, z8⟩ := HZ.out
                try simp only [ByteArray.size_append]
                try rw [List.map_take] at z8
                omega) rfl rfl ?_
              go_frame
              go_big_quiet_step (exact fun _ => rfl)
              refine wpQ_ld rfl _ _ rfl rfl (fun W hW => ldU64 (keep_cell hW y3)) ?_
              go_frame
              refine wpQ_call rfl 41 #[.int .u64 (xn : Nat)] (fun _ => by go_simp) (.string nx) (fun W hW => (HNU.out W).mono fun e w' h => ⟨h.1, below_new hW h.2⟩) ?_
              go_frame
              refine wpQ_call rfl 40 #[.string nx] (fun _ => by go_simp) (.string (one1 nx)) (fun W hW => (HBN.out W).mono fun e w' h => ⟨h.1, below_new hW h.2⟩) ?_
              go_frame
              refine wpQ_addJ  _ _ rfl rfl rfl (by
                obtain ⟨z1, z2, z3, z4, z5, z6, z7, z8⟩ := HZ.out
                try simp only [ByteArray.size_append]
                try rw [List.map_take] at z8
                omega) rfl rfl ?_
              go_frame
              go_big_quiet_step (exact fun _ => rfl)
              refine wpQ_ld rfl _ _ rfl rfl (fun W hW => ldTxt (keep_cell hW y4)) ?_
              go_frame
              refine wpQ_call rfl 40 #[.string xb] (fun _ => by go_simp) (.string (one1 xb)) (fun W hW => (HBB.out W).mono fun e w' h => ⟨h.1, below_new hW h.2⟩) ?_
              go_frame
              refine wpQ_addJ  _ _ rfl rfl rfl (by
                obtain ⟨z1, z2, z3, z4, z5, z6, z7, z8⟩ := HZ.out
                try simp only [ByteArray.size_append]
                try rw [List.map_take] at z8
                omega) rfl rfl ?_
              go_frame
              go_big_quiet_step (exact fun _ => rfl)
              refine wpQ_ld rfl _ _ rfl rfl (fun W hW => ldTxt (keep_cell hW y5)) ?_
              go_frame
              refine wpQ_call rfl 40 #[.string xc] (fun _ => by go_simp) (.string (one1 xc)) (fun W hW => (HBC.out W).mono fun e w' h => ⟨h.1, below_new hW h.2⟩) ?_
              go_frame
              refine wpQ_addJ  _ _ rfl rfl rfl (by
                obtain ⟨z1, z2, z3, z4, z5, z6, z7, z8⟩ := HZ.out
                try simp only [ByteArray.size_append]
                try rw [List.map_take] at z8
                omega) rfl rfl ?_
              go_frame
              go_big_quiet_step (exact fun _ => rfl)
              refine wpQ_call rfl 39 #[.string ⟨(cat (xL.map encSB)).toArray⟩] (fun _ => by go_simp) (.string ⟨(listL (cat (xL.map encSB))).toArray⟩) (fun W hW => (HLS.out W).mono fun e w' h => ⟨h.1, below_new hW h.2⟩) ?_
              go_frame
              refine wpQ_addJ  _ _ rfl rfl rfl (by
                obtain ⟨z1, z2, z3, z4, z5, z6, z7, z8⟩ := HZ.out
                try simp only [ByteArray.size_append]
                try rw [List.map_take] at z8
                omega) rfl rfl ?_
              go_frame
              refine wpQ_call rfl 39 _ (fun _ => by go_simp) (.string EW) (fun W hW => (HLW.out W).mono fun e w' h => ⟨h.1, below_new hW h.2⟩) ?_
              go_frame
              refine wpQ_addJ (R := ⟨(cat ((L.take (i + 1)).map encWB)).toArray⟩) _ _ rfl rfl rfl (by
                obtain ⟨z1, z2, z3, z4, z5, z6, z7, z8⟩ := HZ.out
                try simp only [ByteArray.size_append]
                try rw [List.map_take] at z8
                omega) (by rw [← List.map_take]; exact HACC.out) rfl ?_
              go_frame
              go_big_quiet_step (exact fun _ => rfl)
              refine wpQuiet_nil ?_
              intro w9 hB9
              simp only [Exit.inBlock, Exit.then]
              go_at_K
              have H9 := below_new H8.out hB9
              clear hB9 y0 y1 y2 y3 y4 y5 e6
              go_wp2_with fail
              exact ⟨⟨i + 1, by go_num, rfl, by omega, H9⟩, by simp [intOf]; omega⟩
    · have hii : ¬ (i : Int) < N := by omega
      have HE : Hid ((L.take i).map encWB = L.map encWB) := by
        show _ = _
        rw [List.take_of_length_le (by have := HN.out; omega)]
      rw [HE.out]
      have hs2 : ∀ x ∈ L, SmallW x := fun x hx => (HSM.out x hx).1
      have hl2 : L.length ≤ 64 := by rw [HN.out]; exact hl
      have HQ1 : Hid (∀ W, Calls Try.prog 41 #[.int .u64 (n : Nat)] W fun e w' => e = .returned (.string (numB n)) ∧ Below W.heap.size W w') := fun W => refNumber_any n W (by omega)
      have HQ2 : Hid (∀ W, Calls Try.prog 40 #[.string (numB n)] W fun e w' => e = .returned (.string (one1 (numB n))) ∧ Below W.heap.size W w') := fun W => qbytes_one _ (by have : (numB n).size ≤ 8 := num_len n; omega) W
      have HQ3 : Hid (∀ W, Calls Try.prog 39 #[.string ⟨(cat (L.map encWB)).toArray⟩] W fun e w' => e = .returned (.string ⟨(listL (cat (L.map encWB))).toArray⟩) ∧ Below W.heap.size W w') := fun W => qlist_row (by have := writes_len hl2 hs2; omega) W
      have HQ4 : Hid (∀ W, Calls Try.prog 39 #[.string (one1 (numB n) ++ ⟨(listL (cat (L.map encWB))).toArray⟩)] W fun e w' => e = .returned (.string ⟨(encBk n L).toArray⟩) ∧ Below W.heap.size W w') := fun W => qlist_block hl2 hs2 W
      have HZ : Hid ((one1 (numB n)).size + (⟨(listL (cat (L.map encWB))).toArray⟩ : ByteArray).size ≤ 9223372036854775807) := by
        have h1 := one1_size (numB n)
        have h2 : (numB n).size ≤ 8 := num_len n
        have h3 := writes_len hl2 hs2
        have h4 := listL_len (cat (L.map encWB))
        show _ + (listL (cat (L.map encWB))).length ≤ _
        omega
      generalize (⟨(listL (cat (L.map encWB))).toArray⟩ : ByteArray) = LW at HQ3 HQ4 HZ
      generalize (⟨(cat (L.map encWB)).toArray⟩ : ByteArray) = CW at HQ3 ⊢
      generalize one1 (numB n) = o9 at HQ2 HQ4 HZ
      generalize numB n = n9 at HQ1 HQ2
      have hwr := wrap_u64_nat n hn
      go_wp2_with (first
        | (refine wpList_addJ _ _ rfl rfl rfl HZ.out rfl ?_)
        | (go_at_call 41; refine (HQ1.out _).mono ?_; rintro e v1 ⟨rfl, hb1⟩)
        | (go_at_call 40; refine (HQ2.out _).mono ?_; rintro e v2 ⟨rfl, hb2⟩)
        | (go_at_call 39; have hb3' := hb3; refine (HQ4.out _).mono ?_; rintro e v4 ⟨rfl, hb4⟩)
        | (go_at_call 39; refine (HQ3.out _).mono ?_; rintro e v3 ⟨rfl, hb3⟩)
        | fail)
      go_ret
      have H9 := below_new HB.out (below_new hB (below_new hb1 (below_new hb2 (below_new hb3 hb4))))
      exact ⟨rfl, by first | exact H9 | (rw [← HG.out]; exact H9)⟩
end Go.Proofs.Ytadpopjhhanapaa
/-
  The document's Check and Bytes of a block.
-/
namespace Go.Proofs.Ytadpopjhhanapaa
open Go Go.RowKit

def lastA (L : List Wr) : Nat → ByteArray
  | 0 => ⟨#[]⟩
  | k + 1 => match L[k]? with
    | some s => s.a
    | none => ⟨#[]⟩
theorem kl_nil20 {x : ByteArray} (h : x.size = 20) : kl ⟨#[]⟩ x = true := by
  have hx : x.toList ≠ [] := fun e => by
    have h1 : x.toList.length = 20 := by rw [lb, sizeB]; exact h
    rw [e] at h1; cases h1
  unfold kl
  cases hl : x.toList with
  | nil => exact absurd hl hx
  | cons a l => rw [lb]; rfl
theorem riseA_step {L : List Wr} {k : Nat} {s : Wr} (hs : L[k]? = some s) : riseL Wr.a okW 20 (lastA L k) (L.drop k) = ((decide (s.a.size = 20) && okW s) && kl (lastA L k) s.a && riseL Wr.a okW 20 (lastA L (k + 1)) (L.drop (k + 1))) := by
  have hlt : k < L.length := (List.getElem?_eq_some_iff.1 hs).1
  have e : L.drop k = s :: L.drop (k + 1) := by
    rw [List.drop_eq_getElem_cons hlt]
    rw [List.getElem?_eq_getElem hlt] at hs
    injection hs with hs
    rw [hs]
  have e2 : lastA L (k + 1) = s.a := by show (match L[k]? with | some s => s.a | none => ⟨#[]⟩) = _; rw [hs]
  rw [e, e2]
  show (okW s && (decide (s.a.size = 20) && kl (lastA L k) s.a) && _) = _
  cases okW s <;> cases decide (s.a.size = 20) <;> rfl
theorem okW_not2 {x : Wr} (h : okW x = true) : ¬ (x.g = true ∧ x.r = true) := by
  rintro ⟨h1, h2⟩
  unfold okW bareW at h
  rw [h1, h2] at h
  simp at h
theorem okB_not2 {n : Int} {L : List Wr} (h : okB n L = true) : ∀ x ∈ L, ¬ (x.g = true ∧ x.r = true) := by
  unfold okB at h
  simp only [Bool.and_eq_true] at h
  exact fun x hx => okW_not2 (riseL_all h.2 x hx).1
theorem errV_bad {n : Int} {L : List Wr} (h : okB n L = false) : errV (bytesOf n L) = 19 := by unfold bytesOf; rw [h]; rfl
theorem errV_big {n : Int} {L : List Wr} (h : ¬ (encBk n.toNat L).length ≤ 60000) : errV (bytesOf n L) = 19 := by unfold bytesOf; rw [if_neg h]; cases okB n L <;> rfl
theorem errV_ok {n : Int} {L : List Wr} (h : okB n L = true) (h2 : (encBk n.toNat L).length ≤ 60000) : errV (bytesOf n L) = 0 := by unfold bytesOf; rw [h, if_pos h2]; rfl
set_option maxRecDepth 8000 in
set_option maxHeartbeats 16000000 in
theorem qcheck_any {w : World} {n : Int} {v : Value} {L : List Wr} (hv : WritesAt w v L) (hl : L.length ≤ 4000000000000) : Calls Try.prog 17 #[blkV n v] w fun e w' => e = .returned (.int .i64 (errV (bytesOf n L))) ∧ Below w.heap.size w w' := by
  obtain ⟨p, c, rfl⟩ := hv.shape
  obtain ⟨W0, g, hW0, hg, hB0, hb0, c0, c1⟩ := box_block w n (.slice p L.length c)
  have HB : Hid (Below w.heap.size w W0) := hB0
  have HG : Hid (w.heap.size = g) := hg
  have HV : Hid (WritesAt W0 (.slice p L.length c) L) := hv.below hB0
  have HOK : Hid (okB n L = (decide (1 ≤ n) && decide (n ≤ 2147483647) && decide (L.length ≤ 64) && riseL Wr.a okW 20 ⟨#[]⟩ L)) := rfl
  have HE0 : Hid (okB n L = false → errV (bytesOf n L) = 19) := errV_bad
  have HE1 : Hid (¬ (encBk n.toNat L).length ≤ 60000 → errV (bytesOf n L) = 19) := errV_big
  have HE2 : Hid (okB n L = true → (encBk n.toNat L).length ≤ 60000 → errV (bytesOf n L) = 0) := errV_ok
  have HOA : Hid (okB n L = true → 1 ≤ n ∧ n ≤ 2147483647 ∧ L.length ≤ 64 ∧ (∀ x ∈ L, SmallW x ∧ ¬ (x.g = true ∧ x.r = true))) := fun h => ⟨(okB_all h).1, (okB_all h).2.1, (okB_all h).2.2.1, fun x hx => ⟨(okB_all h).2.2.2 x hx, okB_not2 h x hx⟩⟩
  generalize errV (bytesOf n L) = E at *
  generalize okB n L = ok at *
  obtain ⟨N, hN⟩ : ∃ N, L.length = N := ⟨_, rfl⟩
  have HN : Hid (L.length = N) := hN
  rw [hN] at hl hW0 hb0 c1 HV HOK ⊢
  have HH : Hid (Holds W0 g 24 #[.int .i64 n, .slice p N c]) := hb0
  clear hN hb0 hv hB0
  unfold blkV
  by_cases h1 : 1 ≤ n
  · by_cases h2 : n ≤ 2147483647
    · by_cases h3 : N ≤ 64
      · have h1i : ¬ n < 1 := by omega
        have h2i : ¬ (2147483647 : Int) < n := by omega
        have h3i : ¬ (64 : Int) < N := by omega
        have HOL : Hid (ok = riseL Wr.a okW 20 ⟨#[]⟩ L) := by show _ = _; rw [HOK.out, decide_eq_true h1, decide_eq_true h2, decide_eq_true h3]; rfl
        clear HOK
        go_enter Try.func17, Try.ntmps17
        go_wp2_with fail
        clear c0 c1
        go_loopw [3] (fun y wr => ∃ k : Nat, y = .int .i64 (k : Nat) ∧ k ≤ N ∧ Hid (riseL Wr.a okW 20 ⟨#[]⟩ L = riseL Wr.a okW 20 (lastA L k) (L.drop k)) ∧ Below W0.heap.size W0 wr) (fun y _ => N - (intOf y).toNat)
        case atStart => exact ⟨0, rfl, Nat.zero_le _, rfl, Below.refl _ _⟩
        case round =>
          obtain ⟨k, rfl, hk, HI, hBj⟩ := hrel
          have K0 := below_holds hBj HH.out
          have e10 := K0.cell 1
          simp at e10
          by_cases hkN : k < N
          · have hki : (k : Int) < N := by omega
            obtain ⟨x, hx⟩ : ∃ x, L[k]? = some x := ⟨_, List.getElem?_eq_getElem (by have := HN.out; omega)⟩
            have hvr := HV.out.below hBj
            have hwo := hvr.1 x (List.mem_of_getElem? hx)
            have HST : Hid (riseL Wr.a okW 20 (lastA L k) (L.drop k) = ((decide (x.a.size = 20) && okW x) && kl (lastA L k) x.a && riseL Wr.a okW 20 (lastA L (k + 1)) (L.drop (k + 1)))) := riseA_step hx
            have hmy := qmay_any hwo
            have hsz : (decide (x.a.size = 20) && okW x) = true → x.a.size = 20 := fun h => by simp at h; exact h.1
            obtain ⟨b, o, hbo, -, hwi⟩ : ∃ b o, p = some ⟨b, o, none⟩ ∧ True ∧ WriteAt wr b (o + k * 7) x := by
              obtain ⟨b, o, h1, h2, h3⟩ := hvr.at hx
              exact ⟨b, o, h1, trivial, h3⟩
            subst hbo
            have f00 := hwi.c0
            generalize (decide (x.a.size = 20) && okW x) = mb at hmy HST hsz
            have HMY : Hid (Calls Try.prog 29 #[.agg #[.string x.a, .bool x.g, .bool x.r, .int .u64 (x.n : Nat), .string x.b, .string x.c, x.s]] wr fun e w' => e = .returned (.bool mb) ∧ Below wr.heap.size wr w') := hmy
            clear hmy hwo
            cases mb with
            | false =>
              have HF : Hid (E = 19) := HE0.out (by rw [HOL.out, HI.out, HST.out]; simp)
              clear hsz
              go_wp2_with (first
                | (refine wpList_ldJ rfl 38 _ rfl rfl (ldWrite hwi) ?_)
                | (go_at_call 29; refine HMY.out.mono ?_; rintro e w2 ⟨rfl, hB2⟩; clear hwi)
                | fail)
              have f0 := keep_cell hB2 f00
              have e1 := keep_cell hB2 e10
              refine wp_region_class (fun W => Below w2.heap.size w2 W) mixedP (by kernel_rfl) (Below.refl _ _).drew ?_
              go_big_quiet_step (exact fun _ => rfl)
              go_big_quiet_step (exact fun _ => rfl)
              go_big_quiet_step (exact fun _ => rfl)
              go_big_quiet_step (fail)
              go_big_quiet_step (fail)
              go_big_quiet_step (fail)
              go_big_quiet_step (fail)
              go_big_quiet_step (fail)
              go_big_quiet_step (fail)
              go_big_quiet_step (fail)
              go_big_quiet_step (fail)
              go_big_quiet_step (fail)
              go_big_quiet_step (fail)
              go_big_quiet_step (fail)
              go_big_quiet_step (fail)
              go_big_quiet_step (fail)
              go_big_quiet_step (fail)
              go_big_quiet_step (fail)
              go_big_quiet_step (fail)
              go_big_quiet_step (fail)
              go_big_quiet_step (fail)
              go_big_quiet_step (exact fun _ => rfl)
              refine wpQuiet_nil ?_
              intro w7 hB7
              simp only [Exit.then]
              go_at_K
              have H7 : Hid (Below W0.heap.size W0 w7) := below_new hBj (below_new hB2 hB7)
              clear hBj hB7 hB2 e1 f0
              go_wp2_with fail
              go_ret
              exact ⟨by rw [HF.out]; rfl, by first | exact below_new HB.out H7.out | (rw [← HG.out]; exact below_new HB.out H7.out)⟩
            | true =>
              have h20 := hsz rfl
              clear hsz
              rcases (Nat.eq_zero_or_pos k).imp id (fun h => (⟨k - 1, by omega⟩ : ∃ i, k = i + 1)) with rfl | ⟨i, rfl⟩
              · have HNX : Hid (riseL Wr.a okW 20 ⟨#[]⟩ L = riseL Wr.a okW 20 (lastA L (0 + 1)) (L.drop (0 + 1))) := by
                  show _ = _
                  rw [HI.out, HST.out, show kl (lastA L 0) x.a = true from kl_nil20 h20]
                  simp
                go_wp2_with (first
                  | (refine wpList_ldJ rfl 38 _ rfl rfl (ldWrite hwi) ?_)
                  | (go_at_call 29; refine HMY.out.mono ?_; rintro e w2 ⟨rfl, hB2⟩; clear hwi)
                  | fail)
                have f0 := keep_cell hB2 f00
                have e1 := keep_cell hB2 e10
                refine wp_region_class (fun W => Below w2.heap.size w2 W) mixedP (by kernel_rfl) (Below.refl _ _).drew ?_
                go_big_quiet_step (exact fun _ => rfl)
                go_big_quiet_step (exact fun _ => rfl)
                go_big_quiet_step (exact fun _ => rfl)
                go_big_quiet_step (exact fun _ => rfl)
                refine wpQ_val rfl (.bool false) (fun _ => by go_simp; first | done | omega | exact HWI.out | (rw [IntKind.wrap_i64]; omega)) ?_
                go_frame
                go_big_quiet_step (exact fun _ => rfl)
                go_big_quiet_step (fail)
                go_big_quiet_step (fail)
                go_big_quiet_step (fail)
                go_big_quiet_step (fail)
                go_big_quiet_step (fail)
                go_big_quiet_step (fail)
                go_big_quiet_step (fail)
                go_big_quiet_step (fail)
                go_big_quiet_step (fail)
                go_big_quiet_step (fail)
                go_big_quiet_step (fail)
                go_big_quiet_step (fail)
                go_big_quiet_step (fail)
                go_big_quiet_step (fail)
                go_big_quiet_step (exact fun _ => rfl)
                go_big_quiet_step (exact fun _ => rfl)
                refine wpQuiet_nil ?_
                intro w7 hB7
                simp only [Exit.then]
                go_at_K
                have H7 : Hid (Below W0.heap.size W0 w7) := below_new hBj (below_new hB2 hB7)
                clear hBj hB7 hB2 e1 f0
                go_wp2_with fail
                exact ⟨⟨0 + 1, by go_num, by omega, HNX, H7.out⟩, by simp [intOf]; omega⟩
              · obtain ⟨t, ht⟩ : ∃ t, L[i]? = some t := ⟨_, List.getElem?_eq_getElem (by have := HN.out; omega)⟩
                have hlk : lastA L (i + 1) = t.a := by show (match L[i]? with | some s => s.a | none => ⟨#[]⟩) = _; rw [ht]
                have p00 : wr.cell? ⟨b, o + i * 7, none⟩ = some (.string t.a) := by
                  obtain ⟨b', o', hbo', -, h3⟩ := hvr.at ht
                  injection hbo' with hbo'
                  injection hbo' with hb1 hb2
                  subst hb1 hb2
                  exact h3.c0
                have HLK : Hid (lastA L (i + 1) = t.a) := hlk
                have HWI : Hid (IntKind.i64.wrap (i : Int) = (i : Int)) := by show _ = _; rw [IntKind.wrap_i64]; omega
                rw [hlk] at HST
                obtain ⟨r, hr⟩ : ∃ r, kl t.a x.a = r := ⟨_, rfl⟩
                rw [hr] at HST
                have HKL : Hid ((!kl t.a x.a) = !r) := by show _ = _; rw [hr]
                clear hr hlk ht
                cases r with
                | false =>
                  have HF : Hid (E = 19) := HE0.out (by rw [HOL.out, HI.out, HLK.out, HST.out]; simp)
                  go_wp2_with (first
                    | (refine wpList_ldJ rfl 38 _ rfl rfl (ldWrite hwi) ?_)
                    | (go_at_call 29; refine HMY.out.mono ?_; rintro e w2 ⟨rfl, hB2⟩; clear hwi)
                    | fail)
                  have f0 := keep_cell hB2 f00
                  have e1 := keep_cell hB2 e10
                  refine wp_region_class (fun W => Below w2.heap.size w2 W) mixedP (by kernel_rfl) (Below.refl _ _).drew ?_
                  have p0 := keep_cell hB2 p00
                  go_big_quiet_step (exact fun _ => rfl)
                  go_big_quiet_step (exact fun _ => rfl)
                  go_big_quiet_step (exact fun _ => rfl)
                  go_big_quiet_step (exact fun _ => rfl)
                  refine wpQ_val rfl (.bool true) (fun _ => by go_simp; first | done | omega | exact HWI.out | (rw [IntKind.wrap_i64]; omega)) ?_
                  go_frame
                  go_big_quiet_step (exact fun _ => rfl)
                  go_big_quiet_step (exact fun _ => rfl)
                  refine wpQ_ld rfl _ _ rfl rfl (fun W hW => ldWs (keep_cell hW e1)) ?_
                  go_frame
                  go_big_quiet_step (exact fun _ => rfl)
                  go_big_quiet_step (exact fun _ => rfl)
                  go_big_quiet_step (exact fun _ => rfl)
                  refine wpQ_ld rfl _ _ rfl rfl (fun W hW => ldTxt (keep_cell hW f0)) ?_
                  go_frame
                  go_big_quiet_step (exact fun _ => rfl)
                  refine wpQ_ld rfl _ _ rfl rfl (fun W hW => ldWs (keep_cell hW e1)) ?_
                  go_frame
                  go_big_quiet_step (exact fun _ => rfl)
                  refine wpQ_val rfl (.int .i64 (i : Nat)) (fun _ => by go_simp; first | done | omega | exact HWI.out | (rw [IntKind.wrap_i64]; omega)) ?_
                  go_frame
                  go_big_quiet_step (exact fun _ => rfl)
                  go_big_quiet_step (exact fun _ => rfl)
                  refine wpQ_ld rfl _ _ rfl rfl (fun W hW => ldTxt (keep_cell hW p0)) ?_
                  go_frame
                  refine wpQ_leqJ _ _ rfl rfl rfl HKL.out rfl ?_
                  go_frame
                  go_big_quiet_step (exact fun _ => rfl)
                  go_big_quiet_step (exact fun _ => rfl)
                  refine wpQuiet_nil ?_
                  intro w7 hB7
                  simp only [Exit.then]
                  go_at_K
                  have H7 : Hid (Below W0.heap.size W0 w7) := below_new hBj (below_new hB2 hB7)
                  clear hBj hB7 hB2 e1 f0
                  go_wp2_with fail
                  go_ret
                  exact ⟨by rw [HF.out]; rfl, by first | exact below_new HB.out H7.out | (rw [← HG.out]; exact below_new HB.out H7.out)⟩
                | true =>
                  have HNX : Hid (riseL Wr.a okW 20 ⟨#[]⟩ L = riseL Wr.a okW 20 (lastA L (i + 1 + 1)) (L.drop (i + 1 + 1))) := by
                    show _ = _
                    rw [HI.out, HLK.out, HST.out]
                    simp
                  go_wp2_with (first
                    | (refine wpList_ldJ rfl 38 _ rfl rfl (ldWrite hwi) ?_)
                    | (go_at_call 29; refine HMY.out.mono ?_; rintro e w2 ⟨rfl, hB2⟩; clear hwi)
                    | fail)
                  have f0 := keep_cell hB2 f00
                  have e1 := keep_cell hB2 e10
                  refine wp_region_class (fun W => Below w2.heap.size w2 W) mixedP (by kernel_rfl) (Below.refl _ _).drew ?_
                  have p0 := keep_cell hB2 p00
                  go_big_quiet_step (exact fun _ => rfl)
                  go_big_quiet_step (exact fun _ => rfl)
                  go_big_quiet_step (exact fun _ => rfl)
                  go_big_quiet_step (exact fun _ => rfl)
                  refine wpQ_val rfl (.bool true) (fun _ => by go_simp; first | done | omega | exact HWI.out | (rw [IntKind.wrap_i64]; omega)) ?_
                  go_frame
                  go_big_quiet_step (exact fun _ => rfl)
                  go_big_quiet_step (exact fun _ => rfl)
                  refine wpQ_ld rfl _ _ rfl rfl (fun W hW => ldWs (keep_cell hW e1)) ?_
                  go_frame
                  go_big_quiet_step (exact fun _ => rfl)
                  go_big_quiet_step (exact fun _ => rfl)
                  go_big_quiet_step (exact fun _ => rfl)
                  refine wpQ_ld rfl _ _ rfl rfl (fun W hW => ldTxt (keep_cell hW f0)) ?_
                  go_frame
                  go_big_quiet_step (exact fun _ => rfl)
                  refine wpQ_ld rfl _ _ rfl rfl (fun W hW => ldWs (keep_cell hW e1)) ?_
                  go_frame
                  go_big_quiet_step (exact fun _ => rfl)
                  refine wpQ_val rfl (.int .i64 (i : Nat)) (fun _ => by go_simp; first | done | omega | exact HWI.out | (rw [IntKind.wrap_i64]; omega)) ?_
                  go_frame
                  go_big_quiet_step (exact fun _ => rfl)
                  go_big_quiet_step (exact fun _ => rfl)
                  refine wpQ_ld rfl _ _ rfl rfl (fun W hW => ldTxt (keep_cell hW p0)) ?_
                  go_frame
                  refine wpQ_leqJ _ _ rfl rfl rfl HKL.out rfl ?_
                  go_frame
                  go_big_quiet_step (exact fun _ => rfl)
                  go_big_quiet_step (exact fun _ => rfl)
                  refine wpQuiet_nil ?_
                  intro w7 hB7
                  simp only [Exit.then]
                  go_at_K
                  have H7 : Hid (Below W0.heap.size W0 w7) := below_new hBj (below_new hB2 hB7)
                  clear hBj hB7 hB2 e1 f0
                  go_wp2_with fail
                  exact ⟨⟨(i + 1) + 1, by go_num, by omega, HNX, H7.out⟩, by simp [intOf]; omega⟩
          · have hki : ¬ (k : Int) < N := by omega
            have hok : ok = true := by
              rw [HOL.out, HI.out, List.drop_of_length_le (by have := HN.out; omega)]
              rfl
            obtain ⟨m, rfl⟩ : ∃ m : Nat, n = m := ⟨n.toNat, by omega⟩
            have hq := HOA.out hok
            have hen := qenc_any (n := m) (HV.out.below hBj) (by have := hq.2.1; omega) hq.2.2.1 hq.2.2.2
            have he1 := HE1.out
            have he2 := HE2.out hok
            rw [Int.toNat_natCast] at he1 he2
            generalize encBk m L = s at *
            have hlb : ldBlk K0 = ldBlk K0 := rfl
            clear hlb hq
            have HEN : Hid (Calls Try.prog 23 #[.agg #[.int .i64 (m : Nat), .slice p N c]] wr fun e w' => e = .returned (.string ⟨s.toArray⟩) ∧ Below wr.heap.size wr w') := hen
            have hsz : (⟨s.toArray⟩ : ByteArray).size = s.length := rfl
            by_cases h6 : s.length ≤ 60000
            · have h6i : ¬ (60000 : Int) < (⟨s.toArray⟩ : ByteArray).size := by rw [hsz]; omega
              have HF : Hid (E = 0) := he2 h6
              clear he1 he2 hsz hen HE0 HE1 HE2 HOA
              go_wp2_with (first
                | (refine wpList_ldJ rfl 24 _ rfl rfl (ldBlk K0) ?_)
                | (go_at_call 23; refine HEN.out.mono ?_; rintro e w9 ⟨rfl, hB9⟩)
                | fail)
              go_ret
              have H9 := below_new HB.out (below_new hBj hB9)
              exact ⟨by rw [HF.out]; rfl, by first | exact H9 | (rw [← HG.out]; exact H9)⟩
            · have h6i : (60000 : Int) < (⟨s.toArray⟩ : ByteArray).size := by rw [hsz]; omega
              have HF : Hid (E = 19) := he1 h6
              clear he1 he2 hsz hen HE0 HE1 HE2 HOA
              go_wp2_with (first
                | (refine wpList_ldJ rfl 24 _ rfl rfl (ldBlk K0) ?_)
                | (go_at_call 23; refine HEN.out.mono ?_; rintro e w9 ⟨rfl, hB9⟩)
                | fail)
              go_ret
              have H9 := below_new HB.out (below_new hBj hB9)
              exact ⟨by rw [HF.out]; rfl, by first | exact H9 | (rw [← HG.out]; exact H9)⟩
      · have h1i : ¬ n < 1 := by omega
        have h2i : ¬ (2147483647 : Int) < n := by omega
        have h3i : (64 : Int) < N := by omega
        have HF : Hid (E = 19) := HE0.out (by rw [HOK.out, decide_eq_false h3]; simp)
        go_enter Try.func17, Try.ntmps17
        go_wp2_with fail
        go_ret
        exact ⟨by rw [HF.out]; rfl, by first | exact HB.out | exact below_new1 _ _ | (rw [← HG.out]; exact HB.out)⟩
    · have h1i : ¬ n < 1 := by omega
      have h2i : (2147483647 : Int) < n := by omega
      have HF : Hid (E = 19) := HE0.out (by rw [HOK.out, decide_eq_false h2]; simp)
      go_enter Try.func17, Try.ntmps17
      go_wp2_with fail
      go_ret
      exact ⟨by rw [HF.out]; rfl, by first | exact HB.out | exact below_new1 _ _ | (rw [← HG.out]; exact HB.out)⟩
  · have h1i : n < 1 := by omega
    have HF : Hid (E = 19) := HE0.out (by rw [HOK.out, decide_eq_false h1]; simp)
    go_enter Try.func17, Try.ntmps17
    go_wp2_with fail
    go_ret
    exact ⟨by rw [HF.out]; rfl, by first | exact HB.out | exact below_new1 _ _ | (rw [← HG.out]; exact HB.out)⟩
set_option maxRecDepth 8000 in
set_option maxHeartbeats 2000000 in
theorem qbytes_any {w : World} {n : Int} {v : Value} {L : List Wr} (hv : WritesAt w v L) (hl : L.length ≤ 4000000000000) : Calls Try.prog 12 #[blkV n v] w fun e w' => e = .returned (bytV (bytesOf n L)) ∧ Below w.heap.size w w' := by
  obtain ⟨p, c, rfl⟩ := hv.shape
  obtain ⟨W0, g, hW0, hg, hB0, hb0, c0, c1⟩ := box_block w n (.slice p L.length c)
  have HB : Hid (Below w.heap.size w W0) := hB0
  have HG : Hid (w.heap.size = g) := hg
  have HCK : Hid (Calls Try.prog 17 #[.agg #[.int .i64 n, .slice p L.length c]] W0 fun e w' => e = .returned (.int .i64 (errV (bytesOf n L))) ∧ Below W0.heap.size W0 w') := qcheck_any (hv.below hB0) hl
  cases hb : bytesOf n L with
  | none =>
    rw [hb] at HCK
    unfold errV at HCK
    dsimp only at HCK
    unfold bytV blkV
    dsimp only
    generalize L.length = N at *
    clear hb hv hB0 c0 c1 hl
    go_enter Try.func12, Try.ntmps12
    go_wp2_with (first
      | (refine wpList_ldJ rfl 24 _ rfl rfl (ldBlk hb0) ?_)
      | (go_at_call 17; refine HCK.out.mono ?_; rintro e w1 ⟨rfl, hB1⟩; clear hb0)
      | fail)
    go_ret2
    have H9 := below_new HB.out hB1
    exact ⟨rfl, by first | exact H9 | (rw [← HG.out]; exact H9)⟩
  | some s =>
    rw [hb] at HCK
    unfold errV at HCK
    dsimp only at HCK
    obtain ⟨h1, h2, rfl⟩ := bytesOf_some.1 hb
    obtain ⟨q1, q2, q3, q4⟩ := okB_all h1
    obtain ⟨k, rfl⟩ : ∃ k : Nat, n = k := ⟨n.toNat, by omega⟩
    have HEN : Hid (∀ W, Below W0.heap.size W0 W → Calls Try.prog 23 #[.agg #[.int .i64 (k : Nat), .slice p L.length c]] W fun e w' => e = .returned (.string ⟨(encBk k L).toArray⟩) ∧ Below W.heap.size W w') := fun W hW => qenc_any ((hv.below hB0).below hW) (by omega) (by omega) (fun x hx => ⟨q4 x hx, okB_not2 h1 x hx⟩)
    rw [Int.toNat_natCast]
    unfold bytV blkV
    dsimp only
    generalize encBk k L = s at *
    generalize L.length = N at *
    clear hb hv hB0 c0 c1 hl h1 h2 q1 q2 q3 q4
    have HH : Hid (Holds W0 g 24 #[.int .i64 (k : Nat), .slice p N c]) := hb0
    clear hb0
    go_enter Try.func12, Try.ntmps12
    go_wp2_with (first
      | (refine wpList_ldJ rfl 24 _ rfl rfl (ldBlk K1) ?_)
      | (go_at_call 23; refine (HEN.out _ hB1).mono ?_; rintro e w2 ⟨rfl, hB2⟩)
      | (refine wpList_ldJ rfl 24 _ rfl rfl (ldBlk HH.out) ?_)
      | (go_at_call 17; refine HCK.out.mono ?_; rintro e w1 ⟨rfl, hB1⟩; have K1 := below_holds hB1 HH.out)
      | fail)
    go_ret2
    have H9 := below_new HB.out (below_new hB1 hB2)
    exact ⟨rfl, by first | exact H9 | (rw [← HG.out]; exact H9)⟩
end Go.Proofs.Ytadpopjhhanapaa
