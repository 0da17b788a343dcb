/-
  What the closure of Decode does.
-/
import Derived.Test.YtadpopjhhanapaaRLaws
import Derived.Laws.IdiomStrings
import Derived.Laws.NewBlocks
namespace Go.Proofs.Ytadpopjhhanapaa
open Go Go.RowKit

set_option maxRecDepth 100000 in
theorem infoItem : ∃ i, Try.prog.info? 54 = some i ∧ i.zero = some (.agg #[.bool false, .string ⟨#[]⟩, .slice none 0 0]) ∧ i.size = 3 ∧ i.bytes = 48 := by
  refine ⟨_, rfl, ?_, ?_, ?_⟩ <;> kernel_rfl
theorem item_one (b : Bool) (s : ByteArray) (a : Option Addr) (n c : Nat) : (#[.bool b, .string s, .slice a n c] : Array Value).all (·.oneCell') = true := by simp [Value.oneCell']
theorem infoItem3 : (Try.prog.info? 54).map (·.size) = some 3 := by kernel_rfl
theorem Only.fresh' {B b : Nat} {w w' w'' : World} (h : Below B w w') (k : Only b w' w'') (hb : B ≤ b ∧ B ≤ w'.heap.size) : Below B w w'' :=
  ⟨k.os.trans h.os, k.tape.trans h.tape, k.output.trans h.output, Nat.le_trans h.size k.size,
   fun i hi => (k.block i (Nat.lt_of_lt_of_le hi hb.2) (by omega)).trans (h.block i hi)⟩
theorem underItems : Try.prog.underlying 52 = some (.slice 54) := by kernel_rfl

/-- What a call that reads a row answers. -/
def RowAns (w w' : World) (o : Option Row) (e : Ending) : Prop := match o with
  | none => e = .returned (.tuple #[.slice none 0 0, .bool false])
  | some r => ∃ a c, e = .returned (.tuple #[.slice a r.len c, .bool true]) ∧ Lies w' (fun k => w.heap.size ≤ k ∧ k < w'.heap.size) r a

def Boxed (w : World) (bx : Nat) : Prop := w.cell? ⟨bx, 0, none⟩ = some (.func (.func 43) #[] #[.pointer (some ⟨bx, 0, none⟩)])
theorem Boxed.lt {w : World} {bx : Nat} (h : Boxed w bx) : bx < w.heap.size := World.block_lt_of_cell? w ⟨bx, 0, none⟩ h
theorem Boxed.below {w w' : World} {bx : Nat} (h : Boxed w bx) (k : Below w.heap.size w w') : Boxed w' bx := by
  unfold Boxed; rw [k.cell (p := ⟨bx, 0, none⟩) h.lt]; exact h

theorem Boxed.alloc {w : World} {bx : Nat} (h : Boxed w bx) (o : Obj) : Boxed (w.alloc o) bx := h.below ((Below.refl _ _).alloc (Nat.le_refl _) o)

def txtLen : Value → Nat
  | .string x => x.size
  | _ => 0
def SRow (n : Nat) (w : World) (v : Value) (k : Nat) : Prop := n ≤ k ∧ k < w.heap.size ∧ some k ≠ v.ownBlock
theorem neNil (x : ByteArray) (h : x.size ≠ 0) : x.data.toList ≠ [] := fun e => h (by rw [← sizeB, e]; rfl)
theorem item_news (w : World) (a b c : Value) (j : Nat) (u : Value) (h : [a, b, c][j]? = some u) : (w.alloc (.cells #[a, b, c] 54)).cell? ((⟨w.heap.size, 0, none⟩ : Addr).add j) = some u := by
  rw [add_plain, Nat.zero_add, World.cell?_alloc_mark]
  simpa using h
theorem item_news2 (w : World) (o : Obj) (a b c : Value) (j : Nat) (u : Value) (h : [a, b, c][j]? = some u) : ((w.alloc o).alloc (.cells #[a, b, c] 54)).cell? ((⟨w.heap.size + 1, 0, none⟩ : Addr).add j) = some u := by
  have := item_news (w.alloc o) a b c j u h
  rw [World.size_alloc] at this
  exact this
theorem two_allocs {w w1 : World} (h : Below w.heap.size w w1) (o o2 : Obj) : Below w.heap.size w ((w1.alloc o).alloc o2) := (h.alloc h.size _).alloc (Nat.le_trans h.size (by simp)) _
theorem one_alloc {w w1 : World} {o : Obj} (h : Below (w.alloc o).heap.size (w.alloc o) w1) : Below w.heap.size w w1 :=
  (((Below.refl _ _).alloc (Nat.le_refl _) o).trans (h.mono (by simp)))
theorem map_app (o : Option Row) (r i : Row) (b : Bool) (s : List UInt8) : Option.map r.app (o.map (Row.item b s i)) = o.map (r.app (.item b s i .nil)).app := by
  cases o with
  | none => rfl
  | some q => simp only [Option.map_some, Row.app_app, Row.app]
theorem ownsRow_below {w w' : World} {base size n : Nat} {e : TypeId} {v : Value} {xs : List Value} (h : w.ownsRow base e size v n xs) (k : Below w.heap.size w w') : w'.ownsRow base e size v n xs := by
  cases hv : v.ownBlock with
  | none => exact h.kept (row := none) ⟨k.os, k.tape, k.output, k.size, fun i hi _ => k.block i hi⟩ (.inl hv)
  | some g => exact h.kept (row := none) ⟨k.os, k.tape, k.output, k.size, fun i hi _ => k.block i hi⟩ (.inr (by simp [hv]))
theorem rcells_below {w w' : World} {n : Nat} {v : Value} {r : Row} {xs : List Value} (h : RCells w (SRow n w v) r xs) (k : Below w.heap.size w w') : RCells w' (SRow n w' v) r xs :=
  (h.kept fun i hi => k.block i hi.2.1).mono fun _ hi => ⟨hi.1, Nat.lt_of_lt_of_le hi.2.1 k.size, hi.2.2⟩
theorem rcells_append {w w' : World} {n : Nat} {v v' : Value} {r : Row} {xs : List Value} (h : RCells w (SRow n w v) r xs) (g : w.grownBy w' v.ownBlock) (hw : v'.ownBlock = v.ownBlock ∨ v'.ownBlock = some w.heap.size) : RCells w' (SRow n w' v') r xs :=
  (h.kept fun i hi => g.block i hi.2.1 hi.2.2).mono fun _ hi => ⟨hi.1, Nat.lt_of_lt_of_le hi.2.1 g.size, by
    rcases hw with q | q
    · rw [q]; exact hi.2.2
    · rw [q]; intro e; have := hi.2.1; simp at e; omega⟩
theorem below_grown {B : Nat} {a w w' : World} {row : Option Nat} (h : Below B a w) (hg : w.grownBy w' row) (hB : B ≤ w.heap.size) (hr : ∀ k, row = some k → B ≤ k) : Below B a w' := h.grown hg hB hr

set_option maxRecDepth 8000 in
set_option maxHeartbeats 4000000 in
theorem row_any (N : Nat) : ∀ (x0 : ByteArray) (most : Nat) (d bx : Nat) (w : World), x0.size < N → x0.size ≤ 1000000 → most ≤ 16 → d + most = 17 → Boxed w bx → 
    Calls Try.prog 43 #[.string x0, .int .i64 d, .pointer (some ⟨bx, 0, none⟩)] w fun e w' => RowAns w w' (things most x0.data.toList) e ∧ Below w.heap.size w w' := by
  induction N with
  | zero => intro x0 most d bx w h; omega
  | succ N ih =>
    intro x0 most d bx w hN hx0 hmost hd hbx
    have hbx0 := hbx
    have hmf : ∀ (fn : Fn) (first cap : Array Value) (w : World), (Instr.makeFunc fn first cap).run Try.prog w = .ok (.func fn first cap) w := fun _ _ _ _ => rfl
    obtain ⟨i8, hi, hiz, his, hib⟩ := infoItem
    have HI : Hid (Try.prog.info? 54 = some i8 ∧ i8.zero = some (.agg #[.bool false, .string ⟨#[]⟩, .slice none 0 0]) ∧ i8.size = 3 ∧ i8.bytes = 48) := ⟨hi, hiz, his, hib⟩
    clear hi hiz his hib
    have IH : Hid (∀ (x0 : ByteArray) (most : Nat) (d bx : Nat) (w : World), x0.size < N → x0.size ≤ 1000000 → most ≤ 16 → d + most = 17 → Boxed w bx → 
      Calls Try.prog 43 #[.string x0, .int .i64 d, .pointer (some ⟨bx, 0, none⟩)] w fun e w' => RowAns w w' (things most x0.data.toList) e ∧ Below w.heap.size w w') := ih
    clear ih
    have hmax : (1000001 : Nat) ≤ maxLen := by decide
    obtain ⟨n, hn⟩ : ∃ n, n = w.heap.size := ⟨_, rfl⟩
    have HN : Hid (n = w.heap.size) := hn
    clear hn
    go_enter Try.func43, Try.ntmps43
    go_wp2_with fail
    go_loopw [0, 7] (fun sv ov wr => ∃ (x : ByteArray) (v : Value) (r : Row) (xs : List Value), sv = .string x ∧ ov = v ∧ r.len + x.size ≤ x0.size ∧ things most x0.data.toList = (things most x.data.toList).map r.app ∧ Below n w wr ∧ n ≤ wr.heap.size ∧ wr.ownsRow n 54 3 v r.len xs ∧ RCells wr (SRow n wr v) r xs) (fun sv _ _ => txtLen sv)
    case atStart => exact ⟨x0, _, .nil, [], rfl, rfl, by simp [Row.len], by cases things most x0.data.toList <;> rfl, Below.refl _ _, by have := HN.out; omega, World.ownsRow_nil _ _ _ _, rfl⟩
    case round =>
      obtain ⟨x, v, r, xs, rfl, hv, hrx, hth, hB, hnw, own, hrc⟩ := hrel
      have hv2 := hv.symm
      clear hv
      subst hv2
      have hxx : x.size < 4611686018427387904 := by omega
      have OWN : Hid (wr.ownsRow n 54 3 v r.len xs) := own
      have HRC : Hid (RCells wr (SRow n wr v) r xs) := hrc
      have HTH : Hid (things most x0.data.toList = (things most x.data.toList).map r.app) := hth
      have hbw : bx < w.heap.size := hbx0.lt
      have hbc : wr.cell? ⟨bx, 0, none⟩ = some (.func (.func 43) #[] #[.pointer (some ⟨bx, 0, none⟩)]) := by rw [hB.cell (p := ⟨bx, 0, none⟩) (by have := HN.out; show bx < n; omega)]; exact hbx0
      clear own hrc hth
      by_cases h0 : 0 < x.size
      · have h0i : (0 : Int) < x.size := by omega
        have hne := neNil x (by omega)
        have he : x.toList.isEmpty = false := notEmpty x (by omega)
        cases hsp : split x.data.toList with
        | none =>
          have HNO : Hid (things most x0.data.toList = none) := by have h1 := HTH.out; rw [things_none hne hsp] at h1; exact h1
          go_wp2_with (first
            | (go_at_call 42; refine (split_any x _ hxx).mono ?_; rintro e w1 ⟨rfl, hB1⟩; rw [hsp]; unfold splitV)
            | fail)
          go_ret2
          refine ⟨?_, ?_⟩
          · rw [HNO.out]; rfl
          · have hB2 : Below n w _ := hB.trans (hB1.mono hnw)
            rw [← HN.out]; exact hB2
        | some q =>
          obtain ⟨p, l, t⟩ := q
          obtain ⟨a1, a2, a3⟩ := split_len hsp
          rw [sizeB] at a1 a2 a3
          cases most with
          | zero =>
            have HNO : Hid (things 0 x0.data.toList = none) := by have h1 := HTH.out; rw [things_deep hne] at h1; exact h1
            have hdi : (16 : Int) < d := by omega
            go_wp2_with (first
              | (go_at_call 42; refine (split_any x _ hxx).mono ?_; rintro e w1 ⟨rfl, hB1⟩; rw [hsp]; unfold splitV)
              | fail)
            go_ret2
            refine ⟨?_, ?_⟩
            · rw [HNO.out]; rfl
            · have hB2 : Below n w _ := hB.trans (hB1.mono hnw)
              rw [← HN.out]; exact hB2
          | succ most =>
            have hdi : ¬ (16 : Int) < d := by omega
            cases l with
            | false =>
              have hT := things_text (most := most) hne hsp
              have HT : Hid (things (most + 1) x.data.toList = (things (most + 1) t).map (Row.item false p .nil)) := hT
              clear hT
              go_wp2_with (first
                | (go_at_call 42; refine (split_any x _ hxx).mono ?_; rintro e w1 ⟨rfl, hB1⟩; rw [hsp]; unfold splitV; have hs1 := hB1.size)
                | (refine wpList_append_own2 _ rfl _ _ 52 rfl n 54 i8 (.agg #[.bool false, .string ⟨#[]⟩, .slice none 0 0]) 3 48 underItems HI.out.1 HI.out.2.1 HI.out.2.2.1 HI.out.2.2.2 rfl (by omega) v r.len xs rfl (((ownsRow_below OWN.out hB1).alloc _).alloc _) ⟨w1.heap.size + 1, 0, none⟩ 1 1 [.bool false, .string ⟨p.toArray⟩, .slice none 0 0] rfl rfl (item_news2 w1 _ _ _ _) (by intro u hu; simp at hu; rcases hu with rfl | rfl | rfl <;> rfl) (by omega) (by omega) (by omega) (by rw [World.size_alloc, World.size_alloc]; omega) ?_
                   intro v2 w2 own2 gr2 wh2
                   clear hbc)
                | fail)
              have hB12 := two_allocs hB1 (.cells #[.bool false, .string ⟨p.toArray⟩, .slice none 0 0] 54) (.cells #[.bool false, .string ⟨p.toArray⟩, .slice none 0 0] 54)
              have hrc2 := rcells_append (rcells_below HRC.out hB12) gr2 wh2
              have hBB : Below n w w2 := below_grown (hB.trans (hB12.mono hnw)) gr2 (Nat.le_trans hnw hB12.size) (fun k hk => (OWN.out.lt k hk).1)
              have hsz2 : n ≤ w2.heap.size := Nat.le_trans (Nat.le_trans hnw hB12.size) gr2.size
              have HRL : Hid _ := And.intro hrc2 (And.intro hBB (And.intro hsz2 own2))
              clear hrc2 hBB hsz2 own2 gr2 wh2 hB12
              go_roundw
              case rel =>
                obtain ⟨hrc2, hBB, hsz2, own2⟩ := HRL.out
                refine ⟨⟨t.toArray⟩, v2, r.app (.item false p .nil .nil), _, rfl, rfl, ?_, ?_, hBB, hsz2, ?_, hrc2.snoc (c' := 0) (a' := none) (inner := .nil) (by omega) (by simp [Row.len]) trivial⟩
                · rw [Row.len_app]; show r.len + 1 + t.toArray.size ≤ _; simp; omega
                · rw [HTH.out, HT.out]; exact map_app _ _ _ _ _
                · rw [Row.len_app]; exact own2
              case measure => show t.toArray.size < x.size; simp; omega
            | true =>
              have ha3 := a3 rfl
              have hT := things_list (most := most) hne hsp
              cases hq : things most p with
              | none =>
                rw [hq] at hT
                have HNO : Hid (things (most + 1) x0.data.toList = none) := by have h1 := HTH.out; rw [hT] at h1; exact h1
                clear hT
                go_wp2_with (first
                  | (go_at_call 42; refine (split_any x _ hxx).mono ?_; rintro e w1 ⟨rfl, hB1⟩; rw [hsp]; unfold splitV; have hs1 := hB1.size
                     have hbc1 : Boxed w1 bx := Boxed.below hbc hB1; have hbc2 := hbc1; unfold Boxed at hbc2; have hbl1 := hbc1.lt)
                  | (go_at_call 43; refine (IH.out ⟨p.toArray⟩ most (d + 1) bx _ (by show p.toArray.size < _; simp; omega) (by show p.toArray.size ≤ _; simp; omega) (by omega) (by omega) (Boxed.alloc hbc1 _)).mono ?_; rintro e w2 ⟨hans, hB2⟩; rw [show (⟨p.toArray⟩ : ByteArray).data.toList = p from rfl, hq] at hans; obtain rfl : e = _ := hans)
                  | fail)
                go_ret2
                refine ⟨?_, ?_⟩
                · rw [HNO.out]; rfl
                · have hB3 : Below n w w2 := (hB.trans (hB1.mono hnw)).trans ((one_alloc hB2).mono (Nat.le_trans hnw hs1))
                  rw [← HN.out]; exact hB3
              | some q =>
                rw [hq] at hT
                have HT : Hid (things (most + 1) x.data.toList = (things (most + 1) t).map (Row.item true [] q)) := hT
                have hql := things_len p.length p (Nat.le_refl _) q hq
                clear hT
                go_wp2_with (first
                  | (go_at_call 42; refine (split_any x _ hxx).mono ?_; rintro e w1 ⟨rfl, hB1⟩; rw [hsp]; unfold splitV; have hs1 := hB1.size
                     have hbc1 : Boxed w1 bx := Boxed.below hbc hB1; have hbc2 := hbc1; unfold Boxed at hbc2; have hbl1 := hbc1.lt)
                  | (go_at_call 43; refine (IH.out ⟨p.toArray⟩ most (d + 1) bx _ (by show p.toArray.size < _; simp; omega) (by show p.toArray.size ≤ _; simp; omega) (by omega) (by omega) (Boxed.alloc hbc1 _)).mono ?_; rintro e w2 ⟨hans, hB2⟩; rw [show (⟨p.toArray⟩ : ByteArray).data.toList = p from rfl, hq] at hans; obtain ⟨aq, cq, rfl, hlq⟩ := hans
                     have hm : Holds w2 w1.heap.size 54 #[.bool false, .string ⟨p.toArray⟩, .slice none 0 0] := below_holds hB2 (Holds.new w1 _ _)
                     have hBr2 : Below wr.heap.size wr w2 := hB1.trans ((one_alloc hB2).mono hs1)
                     have hs2 : w1.heap.size + 1 ≤ w2.heap.size := by have h9 := hB2.size; rw [World.size_alloc] at h9; exact h9
                     rw [World.size_alloc] at hlq
                     have HLQ : Hid (Lies w2 (fun k => w1.heap.size + 1 ≤ k ∧ k < w2.heap.size) q aq) := hlq
                     clear hlq hB2)
                  | (refine wpList_storeH rfl 54 _ _ rfl w1.heap.size #[.bool true, .string ⟨#[]⟩, .slice aq q.len cq] rfl rfl 54 _ hm infoItem3 rfl (item_one _ _ _ _ _) ?_
                     intro w3 h3 o3 z3
                     have Z3 : Hid (w3.heap.size = w2.heap.size) := z3
                     clear hm z3)
                  | (refine wpList_loadH rfl 54 _ rfl w1.heap.size rfl 54 _ _ h3 Try.underlying54 rfl infoItem3 ?_)
                  | (refine wpList_append_own2 _ rfl _ _ 52 rfl n 54 i8 (.agg #[.bool false, .string ⟨#[]⟩, .slice none 0 0]) 3 48 underItems HI.out.1 HI.out.2.1 HI.out.2.2.1 HI.out.2.2.2 rfl (by omega) v r.len xs rfl ((ownsRow_only (ownsRow_below OWN.out hBr2) o3 (fun q9 => by have h8 := (OWN.out.lt _ q9).2; omega)).alloc _) ⟨w3.heap.size, 0, none⟩ 1 1 [.bool true, .string ⟨#[]⟩, .slice aq q.len cq] rfl rfl (item_news w3 _ _ _) (by intro u hu; simp at hu; rcases hu with rfl | rfl | rfl <;> rfl) (by omega) (by omega) (by omega) (by rw [World.size_alloc]; have h9 := hBr2.size; have h8 := Z3.out; omega) ?_
                     intro v4 w4 own4 gr4 wh4
                     clear hbc hbc1 hbc2)
                  | fail)
                have hal : Below w3.heap.size w3 (w3.alloc (.cells #[.bool true, .string ⟨#[]⟩, .slice aq q.len cq] 54)) := (Below.refl _ _).alloc (Nat.le_refl _) _
                have hbs := hBr2.size
                have z3 := Z3.out
                have hrc3 : RCells w3 (SRow n w3 v) r xs := (HRC.out.kept fun i hi => (o3.block i (by have := hi.2.1; omega) (by have := hi.2.1; omega)).trans (hBr2.block i hi.2.1)).mono fun _ hi => ⟨hi.1, by have := hi.2.1; omega, hi.2.2⟩
                have hrc4 := rcells_append (rcells_below hrc3 hal) gr4 wh4
                have hlv : ∀ k, v.ownBlock = some k → n ≤ k ∧ k < wr.heap.size := fun k hk => OWN.out.lt k hk
                have hl4 : Lies w4 (SRow n w4 v4) q aq := by
                  have e1 := HLQ.out.kept (w' := w4) fun i hi => by
                    rw [gr4.block i (by rw [World.size_alloc]; omega) (fun q9 => by have := (hlv i q9.symm).2; omega), hal.block i (by omega), o3.block i hi.2 (by omega)]
                  refine e1.mono fun k hk => ⟨by omega, by have h9 := gr4.size; rw [World.size_alloc] at h9; omega, fun q9 => ?_⟩
                  rcases wh4 with q8 | q8
                  · rw [q8] at q9; have := (hlv k q9.symm).2; omega
                  · rw [q8, World.size_alloc] at q9; have h7 : k = w3.heap.size + 1 := by simpa using q9
                    omega
                have hB3 : Below n w w3 := Only.fresh' (hB.trans (hBr2.mono hnw)) o3 ⟨by omega, by omega⟩
                have hBB : Below n w w4 := below_grown (hB3.trans (hal.mono (by omega))) gr4 (by rw [World.size_alloc]; omega) (fun k hk => (hlv k hk).1)
                have hsz4 : n ≤ w4.heap.size := by have h9 := gr4.size; rw [World.size_alloc] at h9; omega
                have HRL : Hid _ := And.intro hrc4 (And.intro hBB (And.intro hsz4 (And.intro own4 hl4)))
                clear hrc3 hrc4 hBB hsz4 own4 gr4 wh4 hBr2 hal hl4 hB3 o3 h3
                go_roundw
                case rel =>
                  obtain ⟨hrc2, hBB, hsz2, own2, hl2⟩ := HRL.out
                  refine ⟨⟨t.toArray⟩, v4, r.app (.item true [] q .nil), _, rfl, rfl, ?_, ?_, hBB, hsz2, ?_, hrc2.snoc (c' := cq) (by simp) (by omega) hl2⟩
                  · rw [Row.len_app]; show r.len + 1 + t.toArray.size ≤ _; simp; omega
                  · rw [HTH.out, HT.out]; exact map_app _ _ _ _ _
                  · rw [Row.len_app]; exact own2
                case measure => show t.toArray.size < x.size; simp; omega
      · have h0i : ¬ (0 : Int) < x.size := by omega
        have hxz : x.size = 0 := by omega
        have hzi : (x.size : Int) = 0 := by omega
        have he : x.toList.isEmpty = true := isEmpty0 x (by omega)
        have HF : Hid (things most x0.data.toList = some r) := by
          have h1 := HTH.out
          rw [show x.data.toList = [] from List.eq_nil_of_length_eq_zero (by rw [sizeB]; exact hxz), things_nil] at h1
          show things most x0.data.toList = some r
          rw [h1, Option.map_some, Row.app_nil]
        obtain ⟨ar, cr, hvr, hlr⟩ := lies_own OWN.out HRC.out rfl (S' := fun k => n ≤ k ∧ k < wr.heap.size) (fun k hk => ⟨hk.1, hk.2.1⟩) (fun k hk => OWN.out.lt k hk)
        have HL : Hid (v = .slice ar r.len cr ∧ Lies wr (fun k => n ≤ k ∧ k < wr.heap.size) r ar) := ⟨hvr, hlr⟩
        clear hvr hlr
        go_wp2_with fail
        go_ret2
        refine ⟨?_, ?_⟩
        · rw [HF.out]
          exact ⟨ar, cr, by rw [← HL.out.1]; rfl, by rw [← HN.out]; exact HL.out.2⟩
        · rw [← HN.out]; exact hB
end Go.Proofs.Ytadpopjhhanapaa
