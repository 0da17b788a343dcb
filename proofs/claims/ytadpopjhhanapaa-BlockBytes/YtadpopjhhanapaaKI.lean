/-
  Texts of this claim, put together.
-/
import Derived.Test.YtadpopjhhanapaaKC
import Derived.Test.YtadpopjhhanapaaRBack
/-
  BlockReads: the law's walk.
-/
namespace Go.Proofs.Ytadpopjhhanapaa
open Go Go.RowKit

theorem enc_split {n : Nat} {L : List Wr} (h : (encBk n L).length ≤ 60000) (r : List UInt8) : ∃ p, split (encBk n L ++ r) = some (p, true, r) := by
  unfold encBk at h ⊢
  have h1 := listL_ge (txtL [numB n] ++ listL (cat (L.map encWB)))
  exact ⟨_, split_list _ r (by omega)⟩
theorem read_more {n : Int} {L : List Wr} {t m : List UInt8} (h : bytesOf n L = some t) (hm : m ≠ []) : readOf (t ++ m) = none := by
  obtain ⟨_, h2, rfl⟩ := bytesOf_some.1 h
  obtain ⟨p, hp⟩ := enc_split h2 m
  have hd : decode (encBk n.toNat L ++ m) = none := by
    unfold decode
    rw [hp]
    cases m with
    | nil => exact absurd rfl hm
    | cons a l => rfl
  unfold readOf
  rw [hd]
  split <;> rfl
theorem read_cut {n : Int} {L : List Wr} {t : List UInt8} (h : bytesOf n L = some t) : 0 < t.length ∧ readOf (t.take (t.length - 1)) = none := by
  obtain ⟨_, h2, rfl⟩ := bytesOf_some.1 h
  obtain ⟨p, hp⟩ := enc_split h2 []
  rw [List.append_nil] at hp
  have h0 : 0 < (encBk n.toNat L).length := by
    cases he : encBk n.toNat L with
    | nil => rw [he] at hp; cases hp
    | cons a l => simp
  have hc := split_cut hp (by omega) ((encBk n.toNat L).length - 1) (by omega)
  refine ⟨h0, ?_⟩
  unfold readOf decode
  rw [hc]
  split <;> rfl
theorem read_is {s : List UInt8} {n : Int} {L : List Wr} (h : readOf s = some (n, L)) : bytesOf n L = some s := by
  unfold readOf at h
  split at h
  · cases h
  · split at h
    · split at h
      · next i _ h1 =>
        injection h with h
        rw [h] at h1
        exact h1
      · cases h
    · cases h
theorem read_none (x : ByteArray) (h : readOf x.data.toList = none) (W : World) : Calls Try.prog 13 #[.string x] W fun e w' => e = .returned (.tuple #[.agg #[.int .i64 0, .slice none 0 0], .int .i64 10]) ∧ Below W.heap.size W w' := by
  have := kread_any x W
  rw [h] at this
  exact this
theorem read_some (x : ByteArray) {n : Int} {L : List Wr} (h : readOf x.data.toList = some (n, L)) (W : World) : Calls Try.prog 13 #[.string x] W fun e w' => (∃ v' K, e = .returned (.tuple #[.agg #[.int .i64 n, v'], .int .i64 0]) ∧ WritesAt w' v' K ∧ K.map Wr.bare = L) ∧ Below W.heap.size W w' := by
  have := kread_any x W
  rw [h] at this
  exact this
set_option maxRecDepth 8000 in
set_option maxHeartbeats 16000000 in
theorem reads_walk {w : World} {n : Int} {v : Value} {L : List Wr} (hv : WritesAt w v L) (hl : L.length ≤ 9223372036854775807) (hls : ∀ x ∈ L, x.L.length ≤ 9223372036854775807) (mo s : ByteArray) (hmo : mo.size ≤ 9223372036854775807) (hs : s.size ≤ 9223372036854775807) :
    Calls Try.prog 8 #[.agg #[.int .i64 n, v], .string mo, .string s] w fun e w' => e = .returned (.bool true) ∧ Below w.heap.size w w' := by
  obtain ⟨p, c, rfl⟩ := hv.shape
  obtain ⟨W0, g, hW0, hg, hB0, hb0, _, _⟩ := box_block w n (.slice p L.length c)
  have HB : Hid (Below w.heap.size w W0) := hB0
  have HG : Hid (w.heap.size = g) := hg
  have hv0 := hv.below hB0
  have HV : Hid (WritesAt W0 (.slice p L.length c) L) := hv0
  have HLI : Hid (∀ W, Below W0.heap.size W0 W → Calls Try.prog 10 #[.agg #[.int .i64 n, .slice p L.length c]] W fun e w' => LPost L e ∧ Below W.heap.size W w') := fun W hW => little_any (hv0.below hW) hl hls
  have HBY : Hid (L.length ≤ 80 → ∀ W, Below W0.heap.size W0 W → Calls Try.prog 11 #[.agg #[.int .i64 n, .slice p L.length c]] W fun e w' => e = .returned (bytV (bytesOf n L)) ∧ Below W.heap.size W w') := fun h80 W hW => kbytes_any (hv0.below hW) (by omega)
  have HAW := awake_any W0
  generalize hN : L.length = N at *
  clear hB0 hv hv0 hl hls
  have HH : Hid (Holds W0 g 24 #[.int .i64 n, .slice p N c]) := hb0
  clear hb0
  go_enter Try.func8, Try.ntmps8
  go_wp2_with (first
    | (refine wpList_loadK _ rfl _ rfl a1 rfl ?_)
    | (go_at_call 9; refine HAW.mono ?_; rintro e w1 ⟨rfl, hB1⟩; have a1 := below_holds hB1 HH.out)
    | fail)
  refine (HLI.out w1 hB1).mono ?_
  rintro e w2 ⟨⟨b1, rfl, hlit⟩, hB2⟩
  have H2 : Hid (Below W0.heap.size W0 w2) := below_new hB1 hB2
  have HF2 : Hid (Below w.heap.size w w2) := below_new HB.out H2.out
  cases b1 with
  | false =>
    clear hlit
    go_wp2_with fail
    go_ret
    exact ⟨rfl, by first | exact HF2.out | (rw [← HG.out]; exact HF2.out)⟩
  | true =>
    have HBY2 : Hid (∀ W, Below W0.heap.size W0 W → Calls Try.prog 11 #[.agg #[.int .i64 n, .slice p N c]] W fun e w' => e = .returned (bytV (bytesOf n L)) ∧ Below W.heap.size W w') := HBY.out (by have := (hlit rfl).1; omega)
    clear hlit HBY HLI hB1 hB2 a1 HV
    by_cases h3 : mo.size ≤ 300
    · have h3i : ¬ (300 : Int) < mo.size := by omega
      by_cases h4 : s.size ≤ 3000
      · have h4i : ¬ (3000 : Int) < s.size := by omega
        clear h3 h4 hmo hs
        cases hr : readOf s.data.toList with
        | none =>
          have HR : Hid (∀ W, Calls Try.prog 13 #[.string s] W fun e w' => e = .returned (.tuple #[.agg #[.int .i64 0, .slice none 0 0], .int .i64 10]) ∧ Below W.heap.size W w') := fun W => read_none s hr W
          clear hr
          go_wp2_with (first
            | (refine wpList_loadK _ rfl _ rfl a4 rfl ?_)
            | (go_at_call 13; refine (HR.out _).mono ?_; rintro e w4 ⟨rfl, hB4⟩
               have HCUR : Hid (Below W0.heap.size W0 (w4.alloc (.cells #[.int .i64 0, .slice none 0 0] 24))) := below_new (below_new H2.out hB4) (below_new1 _ _)
               have a4 := below_holds HCUR.out HH.out)
            | fail)
          clear a4 hB4
          refine (HBY2.out _ HCUR.out).mono ?_
          rintro e w6 ⟨rfl, hB6⟩
          have HC6 : Hid (Below W0.heap.size W0 w6) := below_new HCUR.out hB6
          cases ho : bytesOf n L with
          | none =>
            simp only [bytV]
            go_wp2_with fail
            go_ret
            exact ⟨rfl, by first | exact below_new HB.out HC6.out | (rw [← HG.out]; exact below_new HB.out HC6.out)⟩
          | some t =>
            simp only [bytV]
            by_cases hm0 : mo = ⟨#[]⟩
            · subst hm0
              go_wp2_with fail
              go_ret
              exact ⟨rfl, by first | exact below_new HB.out HC6.out | (rw [← HG.out]; exact below_new HB.out HC6.out)⟩
            · have hne := notEmpty mo (nilB mo hm0)
              have hmn : mo.data.toList ≠ [] := fun e => hm0 (ByteArray.ext (Array.toList_inj.1 (by rw [e])))
              have hR2 := read_more ho hmn
              obtain ⟨ht0, hR3⟩ := read_cut ho
              have htl := (bytesOf_some.1 ho).2.1
              have hte := (bytesOf_some.1 ho).2.2
              rw [← hte] at htl
              have HR2 : Hid (∀ W, Calls Try.prog 13 #[.string ((⟨t.toArray⟩ : ByteArray) ++ mo)] W fun e w' => e = .returned (.tuple #[.agg #[.int .i64 0, .slice none 0 0], .int .i64 10]) ∧ Below W.heap.size W w') := fun W => by rw [strApp]; exact read_none _ hR2 W
              have HR3 : Hid (∀ W, Calls Try.prog 13 #[.string ((⟨t.toArray⟩ : ByteArray).extract 0 (t.length - 1))] W fun e w' => e = .returned (.tuple #[.agg #[.int .i64 0, .slice none 0 0], .int .i64 10]) ∧ Below W.heap.size W w') := fun W => by
                have e1 : ((⟨t.toArray⟩ : ByteArray).extract 0 (t.length - 1)).data.toList = t.take (t.length - 1) := by simp; exact List.dropLast_eq_take
                exact read_none _ (by rw [e1]; exact hR3) W
              obtain ⟨T, hT⟩ : ∃ T : ByteArray, (⟨t.toArray⟩ : ByteArray) = T := ⟨_, rfl⟩
              obtain ⟨k, hk⟩ : ∃ k, t.length = k + 1 := ⟨t.length - 1, by omega⟩
              have hTs : T.size = k + 1 := by rw [← hT]; exact hk
              have hk6 : k ≤ 60000 := by omega
              rw [hT] at HR2 HR3 ⊢
              rw [hk, Nat.add_sub_cancel] at HR3
              clear hR2 hR3 ht0 htl hte ho hm0 hmn hT hk
              go_wp2_with (first
                | (go_at_call 13; refine (HR2.out _).mono ?_; rintro e w7 ⟨rfl, hB7⟩; have H7 := below_new HC6.out hB7; clear HR2)
                | (go_at_call 13; refine (HR3.out _).mono ?_; rintro e w8 ⟨rfl, hB8⟩; have H8 := below_new H7 (below_new (below_new1 _ (.cells #[.int .i64 0, .slice none 0 0] 24)) hB8); clear HR3)
                | fail)
              go_ret
              have H9 := below_new HB.out (below_new H8 (below_new1 _ (.cells #[.int .i64 0, .slice none 0 0] 24)))
              exact ⟨rfl, by first | exact H9 | (rw [← HG.out]; exact H9)⟩
        | some B =>
          obtain ⟨n0, L0⟩ := B
          have hb := read_is hr
          have HR : Hid (∀ W, Calls Try.prog 13 #[.string s] W fun e w' => (∃ v' K, e = .returned (.tuple #[.agg #[.int .i64 n0, v'], .int .i64 0]) ∧ WritesAt w' v' K ∧ K.map Wr.bare = L0) ∧ Below W.heap.size W w') := fun W => read_some s hr W
          have hse : (⟨s.data.toList.toArray⟩ : ByteArray) = s := ByteArray.ext (by simp)
          have hkl : ∀ K : List Wr, K.map Wr.bare = L0 → K.length ≤ 4000000000000 := fun K hK => by
            have h1 := (okB_all (bytesOf_some.1 hb).1).2.2.1
            rw [← hK, List.length_map] at h1
            omega
          have HKB : Hid (∀ W v K, WritesAt W v K → K.map Wr.bare = L0 → Calls Try.prog 11 #[.agg #[.int .i64 n0, v]] W fun e w' => e = .returned (.tuple #[.string s, .int .i64 0]) ∧ Below W.heap.size W w') := fun W v K h1 h2 => by
            have := kbytes_any (n := n0) h1 (hkl K h2)
            rw [← bytesOf_bare, h2, hb] at this
            unfold bytV at this
            dsimp only at this
            rw [hse] at this
            exact this
          have HKC : Hid (∀ W v K, WritesAt W v K → K.map Wr.bare = L0 → Calls Try.prog 16 #[.agg #[.int .i64 n0, v]] W fun e w' => e = .returned (.int .i64 0) ∧ Below W.heap.size W w') := fun W v K h1 h2 => by
            have := kcheck_any (n := n0) h1 (hkl K h2)
            rw [← bytesOf_bare, h2, hb] at this
            exact this
          clear hr hb hse hkl
          go_wp2_with (first
            | (refine wpList_loadK _ rfl _ rfl a6 rfl ?_)
            | (refine wpList_loadK _ rfl _ rfl a9 rfl ?_)
            | (go_at_call 13; refine (HR.out _).mono ?_; rintro e w4 ⟨⟨v4, K4, rfl, hat, hK⟩, hB4⟩
               obtain ⟨p4, c4, rfl⟩ := hat.shape)
            | (go_at_call 11; refine (HKB.out _ _ K4 (hat.below (below_new1 _ _)) hK).mono ?_; rintro e w5 ⟨rfl, hB5⟩
               have a9 := below_holds hB5 (Holds.new w4 24 #[.int .i64 n0, .slice p4 K4.length c4])
               have hat5 := (hat.below (below_new1 _ (.cells #[.int .i64 n0, .slice p4 K4.length c4] 24))).below hB5
               have H5 := below_new (below_new H2.out hB4) (below_new (below_new1 _ (.cells #[.int .i64 n0, .slice p4 K4.length c4] 24)) hB5)
               clear HKB)
            | (go_at_call 16; refine (HKC.out _ _ K4 hat5 hK).mono ?_; rintro e w5b ⟨rfl, hB5b⟩
               have HCUR : Hid (Below W0.heap.size W0 w5b) := below_new H5 hB5b
               have a6 := below_holds HCUR.out HH.out
               clear HKC)
            | fail)
          clear a9 a6 hB4 hat hat5 H5 hB5 hB5b
          refine (HBY2.out _ HCUR.out).mono ?_
          rintro e w6 ⟨rfl, hB6⟩
          have HC6 : Hid (Below W0.heap.size W0 w6) := below_new HCUR.out hB6
          cases ho : bytesOf n L with
          | none =>
            simp only [bytV]
            go_wp2_with fail
            go_ret
            exact ⟨rfl, by first | exact below_new HB.out HC6.out | (rw [← HG.out]; exact below_new HB.out HC6.out)⟩
          | some t =>
            simp only [bytV]
            by_cases hm0 : mo = ⟨#[]⟩
            · subst hm0
              go_wp2_with fail
              go_ret
              exact ⟨rfl, by first | exact below_new HB.out HC6.out | (rw [← HG.out]; exact below_new HB.out HC6.out)⟩
            · have hne := notEmpty mo (nilB mo hm0)
              have hmn : mo.data.toList ≠ [] := fun e => hm0 (ByteArray.ext (Array.toList_inj.1 (by rw [e])))
              have hR2 := read_more ho hmn
              obtain ⟨ht0, hR3⟩ := read_cut ho
              have htl := (bytesOf_some.1 ho).2.1
              have hte := (bytesOf_some.1 ho).2.2
              rw [← hte] at htl
              have HR2 : Hid (∀ W, Calls Try.prog 13 #[.string ((⟨t.toArray⟩ : ByteArray) ++ mo)] W fun e w' => e = .returned (.tuple #[.agg #[.int .i64 0, .slice none 0 0], .int .i64 10]) ∧ Below W.heap.size W w') := fun W => by rw [strApp]; exact read_none _ hR2 W
              have HR3 : Hid (∀ W, Calls Try.prog 13 #[.string ((⟨t.toArray⟩ : ByteArray).extract 0 (t.length - 1))] W fun e w' => e = .returned (.tuple #[.agg #[.int .i64 0, .slice none 0 0], .int .i64 10]) ∧ Below W.heap.size W w') := fun W => by
                have e1 : ((⟨t.toArray⟩ : ByteArray).extract 0 (t.length - 1)).data.toList = t.take (t.length - 1) := by simp; exact List.dropLast_eq_take
                exact read_none _ (by rw [e1]; exact hR3) W
              obtain ⟨T, hT⟩ : ∃ T : ByteArray, (⟨t.toArray⟩ : ByteArray) = T := ⟨_, rfl⟩
              obtain ⟨k, hk⟩ : ∃ k, t.length = k + 1 := ⟨t.length - 1, by omega⟩
              have hTs : T.size = k + 1 := by rw [← hT]; exact hk
              have hk6 : k ≤ 60000 := by omega
              rw [hT] at HR2 HR3 ⊢
              rw [hk, Nat.add_sub_cancel] at HR3
              clear hR2 hR3 ht0 htl hte ho hm0 hmn hT hk
              go_wp2_with (first
                | (go_at_call 13; refine (HR2.out _).mono ?_; rintro e w7 ⟨rfl, hB7⟩; have H7 := below_new HC6.out hB7; clear HR2)
                | (go_at_call 13; refine (HR3.out _).mono ?_; rintro e w8 ⟨rfl, hB8⟩; have H8 := below_new H7 (below_new (below_new1 _ (.cells #[.int .i64 0, .slice none 0 0] 24)) hB8); clear HR3)
                | fail)
              go_ret
              have H9 := below_new HB.out (below_new H8 (below_new1 _ (.cells #[.int .i64 0, .slice none 0 0] 24)))
              exact ⟨rfl, by first | exact H9 | (rw [← HG.out]; exact H9)⟩
      · have h4i : (3000 : Int) < s.size := by omega
        clear h3 h4 hmo hs
        go_wp2_with fail
        go_ret
        exact ⟨rfl, by first | exact HF2.out | (rw [← HG.out]; exact HF2.out)⟩
    · have h3i : (300 : Int) < mo.size := by omega
      clear h3 hmo hs
      go_wp2_with fail
      go_ret
      exact ⟨rfl, by first | exact HF2.out | (rw [← HG.out]; exact HF2.out)⟩
end Go.Proofs.Ytadpopjhhanapaa
/-
  A block's bytes are read as that block: on lists of bytes.
-/
namespace Go.Proofs.Ytadpopjhhanapaa
open Go Go.RowKit

theorem things_b {d : Nat} {x r : List UInt8} (hx : x.length < 4611686018427387904) : things (d + 1) (bytesL x ++ r) = (things (d + 1) r).map (Row.item false x .nil) := by
  have h := split_bytes x r hx
  exact things_text (fun e => by rw [e] at h; cases h) h
theorem things_l {d : Nat} {p r : List UInt8} {q : Row} (hp : p.length < 4611686018427387904) (hq : things d p = some q) : things (d + 1) (listL p ++ r) = (things (d + 1) r).map (Row.item true [] q) := by
  have h := split_list p r hp
  rw [things_list (fun e => by rw [e] at h; cases h) h, hq]
def rowTxt : List ByteArray → Row → Row
  | [], r => r
  | x :: l, r => .item false x.data.toList .nil (rowTxt l r)
def rowLs : List Row → Row
  | [] => .nil
  | q :: l => .item true [] q (rowLs l)
theorem things_txt {d : Nat} {r : List UInt8} : ∀ {l : List ByteArray}, (∀ x ∈ l, x.size ≤ 1000) → things (d + 1) (txtL l ++ r) = (things (d + 1) r).map (rowTxt l)
  | [], _ => by
    have e : txtL [] ++ r = r := rfl
    rw [e]
    cases things (d + 1) r <;> rfl
  | x :: l, h => by
    have ih := things_txt (d := d) (r := r) (l := l) fun y hy => h y (List.mem_cons_of_mem _ hy)
    have hx := h x (List.mem_cons_self ..)
    have e : txtL (x :: l) ++ r = bytesL x.data.toList ++ (txtL l ++ r) := by unfold txtL; simp
    rw [e, things_b (by rw [sizeB]; omega), ih]
    cases things (d + 1) r <;> rfl
theorem things_ls {α : Type} {d : Nat} {p : α → List UInt8} {q : α → Row} : ∀ {L : List α}, (∀ x ∈ L, (p x).length ≤ 1000000 ∧ things d (p x) = some (q x)) → things (d + 1) (cat (L.map fun x => ⟨(listL (p x)).toArray⟩)) = some (rowLs (L.map q))
  | [], _ => things_nil _
  | x :: l, h => by
    have ih := things_ls (d := d) (p := p) (q := q) (L := l) fun y hy => h y (List.mem_cons_of_mem _ hy)
    have hx := h x (List.mem_cons_self ..)
    have e : cat ((x :: l).map fun x => (⟨(listL (p x)).toArray⟩ : ByteArray)) = listL (p x) ++ cat (l.map fun x => ⟨(listL (p x)).toArray⟩) := by simp [cat]
    rw [e, things_l (by omega) hx.2, ih]
    rfl
theorem rowLs_len : ∀ l : List Row, (rowLs l).len = l.length
  | [] => rfl
  | q :: l => by simp [rowLs, Row.len, rowLs_len l]
theorem rowLs_map {α : Type} (f : Row → α) : ∀ l : List Row, ((List.range (rowLs l).len).map fun k => f (rowAt (rowLs l) k)) = l.map f
  | [] => rfl
  | q :: l => by
    have ih := rowLs_map f l
    rw [rowLs_len] at ih
    rw [rowLs_len, List.length_cons, List.range_succ_eq_map, List.map_cons, List.map_map, List.map_cons]
    congr 1
def rowS (s : Sl) : Row := rowTxt [s.k, s.v] .nil
def rowW (x : Wr) : Row := rowTxt (headW x) (.item true [] (rowLs (x.L.map rowS)) .nil)
def rowB (n : Nat) (L : List Wr) : Row := rowTxt [numB n] (.item true [] (rowLs (L.map rowW)) .nil)
theorem backB (x : ByteArray) : (⟨x.data.toList.toArray⟩ : ByteArray) = x := ByteArray.ext (by simp)
theorem things_slots {d : Nat} {L : List Sl} (h : ∀ s ∈ L, Small s) : things (d + 2) (cat (L.map encSB)) = some (rowLs (L.map rowS)) := by
  have h1 := things_ls (d := d + 1) (p := fun s : Sl => txtL [s.k, s.v]) (q := rowS) (L := L) (fun s hs => by
    have h2 := h s hs
    have h4 : ∀ y ∈ [s.k, s.v], y.size ≤ 100 := by
      intro y hy
      rcases List.mem_cons.1 hy with rfl | hy
      · exact h2.1
      · rw [List.mem_singleton.1 hy]; exact h2.2
    refine ⟨?_, ?_⟩
    · have h3 := txtL_len (m := 100) (L := [s.k, s.v]) h4
      simp only [List.length_cons, List.length_nil] at h3
      omega
    · have h5 := things_txt (d := d) (r := []) (l := [s.k, s.v]) (fun y hy => Nat.le_trans (h4 y hy) (by decide))
      rw [List.append_nil, things_nil] at h5
      exact h5)
  exact h1
theorem things_write {d : Nat} {x : Wr} (h : SmallW x) : things (d + 3) (txtL (headW x) ++ listL (cat (x.L.map encSB))) = some (rowW x) := by
  have h1 := things_slots (d := d) (L := x.L) h.s
  have h2 := slots_len h.l h.s
  have h3 := things_l (d := d + 2) (r := []) (by omega) h1
  rw [List.append_nil, things_nil] at h3
  rw [things_txt (d := d + 2) (fun y hy => Nat.le_trans (h.head y hy) (by decide)), h3]
  rfl
theorem things_writes {d : Nat} {L : List Wr} (h : ∀ x ∈ L, SmallW x) : things (d + 4) (cat (L.map encWB)) = some (rowLs (L.map rowW)) := by
  have h1 := things_ls (d := d + 3) (p := fun x : Wr => txtL (headW x) ++ listL (cat (x.L.map encSB))) (q := rowW) (L := L) (fun x hx => by
    have h2 := encW_len (h x hx)
    unfold encW at h2
    have h3 := listL_ge (txtL (headW x) ++ listL (cat (x.L.map encSB)))
    exact ⟨by omega, things_write (h x hx)⟩)
  exact h1
theorem decode_enc16 {n : Nat} {L : List Wr} (hl : (encBk n L).length ≤ 60000) (h : ∀ x ∈ L, SmallW x) : decode (encBk n L) = some (.item true [] (rowB n L) .nil) := by
  have h1 := things_writes (d := 10) h
  have hb : (encBk n L).length ≤ 60000 := hl
  unfold encBk at hl ⊢
  have h3 := listL_ge (txtL [numB n] ++ listL (cat (L.map encWB)))
  have h4 := listL_ge (cat (L.map encWB))
  rw [List.length_append] at h3
  have h5 := things_l (d := 14) (r := []) (by omega) h1
  rw [List.append_nil, things_nil] at h5
  have h6 := things_txt (d := 14) (r := listL (cat (L.map encWB))) (l := [numB n]) (fun y hy => by
    rw [List.mem_singleton.1 hy]
    have : (numB n).size ≤ 8 := num_len n
    omega)
  rw [h5] at h6
  have h7 := things_l (d := 15) (r := []) (by rw [List.length_append]; omega) h6
  have h8 := split_list (txtL [numB n] ++ listL (cat (L.map encWB))) [] (by rw [List.length_append]; omega)
  rw [List.append_nil] at h7 h8
  rw [things_nil] at h7
  unfold decode
  rw [h8]
  exact h7
theorem slotR_S (s : Sl) : slotR (rowS s) = s := by
  unfold slotR rowS
  rw [if_pos (by rfl)]
  show (⟨⟨s.k.data.toList.toArray⟩, ⟨s.v.data.toList.toArray⟩⟩ : Sl) = s
  rw [backB, backB]
theorem kind_g {x : Wr} (h : okW x = true) : decide (kindB x = ⟨#[1]⟩) = x.g ∧ decide (kindB x = ⟨#[2]⟩) = x.r := by
  unfold okW at h
  simp only [Bool.and_eq_true] at h
  have h1 := h.1.1.1
  unfold kindB
  cases hg : x.g with
  | true =>
    have hr : x.r = false := by
      cases hr : x.r with
      | false => rfl
      | true =>
        rw [hg] at h1
        unfold bareW at h1
        rw [hr] at h1
        simp at h1
    rw [hr, if_pos rfl]
    exact ⟨by decide, by decide⟩
  | false =>
    rw [if_neg (by simp)]
    cases hr : x.r with
    | true => rw [if_pos rfl]; exact ⟨by decide, by decide⟩
    | false => rw [if_neg (by simp)]; exact ⟨by decide, by decide⟩
theorem writeR_W {x : Wr} (h : okW x = true) (hn : x.n < 18446744073709551616) : writeR (rowW x) (.slice none 0 0) = x.bare := by
  have hL : slotsR (rowAt (rowW x) 5) = x.L := by
    have e : rowAt (rowW x) 5 = rowLs (x.L.map rowS) := rfl
    rw [e]
    unfold slotsR
    rw [rowLs_map slotR, List.map_map]
    have e2 : slotR ∘ rowS = id := funext slotR_S
    rw [e2, List.map_id]
  have e6 : (rowW x).len = 6 := rfl
  rw [writeR_six e6, hL]
  have t0 : txtAt (rowW x) 0 = x.a := backB x.a
  have t1 : txtAt (rowW x) 1 = kindB x := backB (kindB x)
  have t2 : txtAt (rowW x) 2 = numB x.n := backB (numB x.n)
  have t3 : txtAt (rowW x) 3 = x.b := backB x.b
  have t4 : txtAt (rowW x) 4 = x.c := backB x.c
  rw [t0, t1, t2, t3, t4, (kind_g h).1, (kind_g h).2]
  have hu : uintV (numB x.n).data.toList = x.n := by
    show uintV (num x.n) = x.n
    unfold uintV
    rw [uint_num x.n hn]; rfl
  rw [hu]
  rfl
theorem blkR_B {n : Nat} {L : List Wr} (hn : n ≤ 2147483647) (h : ∀ x ∈ L, okW x = true ∧ x.n < 18446744073709551616) : blkR (rowB n L) = ((n : Int), L.map Wr.bare) := by
  have e2 : (rowB n L).len = 2 := rfl
  unfold blkR
  rw [if_pos e2]
  have hw : writesR (rowAt (rowB n L) 1) = L.map Wr.bare := by
    have e : rowAt (rowB n L) 1 = rowLs (L.map rowW) := rfl
    rw [e]
    unfold writesR
    rw [rowLs_map (fun r => writeR r (.slice none 0 0)), List.map_map]
    exact List.map_congr_left fun x hx => writeR_W (h x hx).1 (h x hx).2
  have hnum : numR (rowB n L) = (n : Int) := by
    have t0 : txtAt (rowB n L) 0 = numB n := backB (numB n)
    unfold numR
    rw [t0]
    have hu : uintV (numB n).data.toList = n := by
      show uintV (num n) = n
      unfold uintV
      rw [uint_num n (by omega)]; rfl
    rw [hu]
    unfold wrap64
    omega
  rw [hw, hnum]
/-- A block's bytes are read as that block. -/
theorem read_back {n : Int} {L : List Wr} {s : List UInt8} (h : bytesOf n L = some s) (hL : ∀ x ∈ L, x.n < 18446744073709551616) : readOf s = some (n, L.map Wr.bare) := by
  obtain ⟨h1, h2, rfl⟩ := bytesOf_some.1 h
  obtain ⟨q1, q2, q3, q4⟩ := okB_all h1
  obtain ⟨k, rfl⟩ : ∃ k : Nat, n = k := ⟨n.toNat, by omega⟩
  have hk : ((k : Int)).toNat = k := Int.toNat_natCast k
  rw [hk] at h2 h ⊢
  have hok : ∀ x ∈ L, okW x = true := fun x hx => by
    unfold okB at h1
    simp only [Bool.and_eq_true] at h1
    exact (riseL_all h1.2 x hx).1
  have hB := blkR_B (n := k) (by omega) fun x hx => ⟨hok x hx, hL x hx⟩
  unfold readOf
  rw [if_neg (by omega), decode_enc16 h2 q4]
  show (if bytesOf (blkR (rowB k L)).1 (blkR (rowB k L)).2 = some (encBk k L) then some (blkR (rowB k L)) else none) = _
  rw [hB]
  dsimp only
  rw [bytesOf_bare, h, if_pos rfl]
/-- No bytes are two blocks. -/
theorem bytes_inj {n m : Int} {L K : List Wr} {s t : List UInt8} (h : bytesOf n L = some s) (h' : bytesOf m K = some t) (hL : ∀ x ∈ L, x.n < 18446744073709551616) (hK : ∀ x ∈ K, x.n < 18446744073709551616) : s = t ↔ n = m ∧ L.map Wr.bare = K.map Wr.bare := by
  constructor
  · intro e
    have h1 := read_back h hL
    have h2 := read_back h' hK
    rw [e, h2] at h1
    injection h1 with h1
    injection h1 with h3 h4
    exact ⟨h3.symm, h4.symm⟩
  · rintro ⟨rfl, e⟩
    rw [← bytesOf_bare, e, bytesOf_bare, h'] at h
    injection h with h
    exact h.symm
end Go.Proofs.Ytadpopjhhanapaa
