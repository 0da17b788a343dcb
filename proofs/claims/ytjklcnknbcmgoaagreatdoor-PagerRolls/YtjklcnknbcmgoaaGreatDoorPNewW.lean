/-
  What the call of Newest does.
-/
import Derived.Test.YtjklcnknbcmgoaaGreatDoorPB
namespace Go.Proofs.YtjklcnknbcmgoaaGreatDoor.K
open Go Go.RowKit

theorem results_three {P : Program} {fn : Func} {p u v : Tmp} {ty : TypeId} (h : fn.results = #[.cell p ty, .tmp u, .tmp v]) (tmps : Array Value) (w : World) (b : Nat) (t : TypeId) (cs : Array Value) (d : TypeDesc)
    (hp : tmps.getD p undef = .pointer (some ⟨b, 0, none⟩)) (hh : Holds w b t cs)
    (hu : P.underlying ty = some d) (hd : d.isRow = true) (hi : (P.info? ty).map (·.size) = some cs.size) : (results fn tmps).run P w = .ok (.tuple #[.agg cs, tmps.getD u undef, tmps.getD v undef]) w := by
  have hr := run_loadVar_row w b t ty cs (0, 0) d hh hu (by cases d <;> simp_all) hi
  have e : (results fn tmps).run P w = ((asAddr (tmps.getD p undef)).run P w).andThen fun a w₁ => ((loadVar ty a).run P w₁).andThen fun x w₂ => .ok (.tuple #[x, tmps.getD u undef, tmps.getD v undef]) w₂ := by
    simp only [results, h]
    simp [Sem.run_bind, Result.andThen]
  rw [e, hp]
  simp [asAddr, hr]
/-- What Newest tells of what has been read so far. -/
def newM (o : Option (M4 × Nat)) : M4 := match o with | none => zeroM | some (m, _) => m
def newA (o : Option (M4 × Nat)) : Nat := match o with | none => 0 | some (_, k) => k
def newE (o : Option (M4 × Nat)) : Int := match o with | none => 17 | some _ => 0
/-- One page more. -/
def more (o : Option (M4 × Nat)) (i : Nat) (r : Option M4) : Option (M4 × Nat) :=
  match r with
  | none => o
  | some m => match o with
    | none => some (m, i)
    | some (n, _) => if n.tx < m.tx then some (m, i) else o
theorem more_two (a b : ByteArray) : more (more none 0 (readS a)) 1 (readS b) = newS a b := by
  unfold more newS
  cases readS a <;> cases readS b <;> rfl
def pick (a b : ByteArray) (i : Nat) : ByteArray := if i = 0 then a else b
def upS (a b : ByteArray) : Nat → Option (M4 × Nat)
  | 0 => none
  | i + 1 => more (upS a b i) i (readS (pick a b i))
theorem upS_two (a b : ByteArray) : upS a b 2 = newS a b := more_two a b
theorem zeroTwo : ∀ w, (zeroValue 147).run Tryz.prog w = .ok (.agg #[.string ⟨#[]⟩, .string ⟨#[]⟩]) w := (zero_of_info (n := 2) (by kernel_rfl)).1
theorem infoTwo : (Tryz.prog.info? 147).map (·.size) = some 2 := by kernel_rfl
set_option maxRecDepth 8000 in
set_option maxHeartbeats 4000000 in
theorem newest_any (p q : ByteArray) (w : World) (hT : Tabs w) (hp : p.size ≤ 9223372036854775807) (hq : q.size ≤ 9223372036854775807) :
    Calls Tryz.prog 57 #[.string p, .string q] w fun e w' => e = .returned (.tuple #[.agg (m4A (newM (newS p q))), .int .i64 (newA (newS p q) : Nat), .int .i64 (newE (newS p q))]) ∧ Below w.heap.size w w' := by
  have hz := zeroMeta
  have hz2 := zeroTwo
  rw [← upS_two]
  have h1 := ((Holds.new w 43 #[.int .i64 0, .int .i64 0, .int .i64 0, .int .i64 0]).alloc (.cells #[.string p, .string q] 147)).alloc (.cells #[.int .i64 0, .int .i64 0, .int .i64 0, .int .i64 0] 43)
  have h2 := (Holds.new (w.alloc (.cells #[.int .i64 0, .int .i64 0, .int .i64 0, .int .i64 0] 43)) 147 #[.string p, .string q]).alloc (.cells #[.int .i64 0, .int .i64 0, .int .i64 0, .int .i64 0] 43)
  have h3 := Holds.new ((w.alloc (.cells #[.int .i64 0, .int .i64 0, .int .i64 0, .int .i64 0] 43)).alloc (.cells #[.string p, .string q] 147)) 43 #[.int .i64 0, .int .i64 0, .int .i64 0, .int .i64 0]
  rw [World.size_alloc] at h2
  rw [World.size_alloc, World.size_alloc] at h3
  have hB : Below w.heap.size w (((w.alloc (.cells #[.int .i64 0, .int .i64 0, .int .i64 0, .int .i64 0] 43)).alloc (.cells #[.string p, .string q] 147)).alloc (.cells #[.int .i64 0, .int .i64 0, .int .i64 0, .int .i64 0] 43)) := (((Below.refl _ _).alloc (Nat.le_refl _) _).alloc (by rw [World.size_alloc]; omega) _).alloc (by rw [World.size_alloc, World.size_alloc]; omega) _
  go_enter Tryz.func57, Tryz.ntmps57
  go_wp2_with fail
  generalize ((w.alloc (.cells #[.int .i64 0, .int .i64 0, .int .i64 0, .int .i64 0] 43)).alloc (.cells #[.string p, .string q] 147)).alloc (.cells #[.int .i64 0, .int .i64 0, .int .i64 0, .int .i64 0] 43) = W0 at h1 h2 h3 hB ⊢
  obtain ⟨g, hg⟩ : ∃ g, g = w.heap.size := ⟨_, rfl⟩
  rw [← hg] at h1 h2 h3 ⊢
  have HG : Hid (g = w.heap.size) := hg
  clear hg
  have F0 : Hid (Below w.heap.size w W0 ∧ Holds W0 g 43 (m4A zeroM) ∧ Holds W0 (g + 1) 147 #[.string p, .string q] ∧ Holds W0 (g + 1 + 1) 43 (m4A (newM (upS p q 0)))) := ⟨hB, h1, h2, h3⟩
  clear hB h1 h2 h3
  go_loopw [9, 10, 17] (fun av ev zv wr => ∃ i : Nat, i ≤ 2 ∧ zv = .int .i64 (i : Nat) ∧ av = .int .i64 (newA (upS p q i) : Nat) ∧ ev = .int .i64 (newE (upS p q i)) ∧ Below w.heap.size w wr ∧ Holds wr g 43 (m4A zeroM) ∧ Holds wr (g + 1) 147 #[.string p, .string q] ∧ Holds wr (g + 1 + 1) 43 (m4A (newM (upS p q i)))) (fun _ _ zv _ => 2 - (intOf zv).toNat)
  case atStart => exact ⟨0, by omega, rfl, rfl, rfl, F0.out⟩
  case round =>
    clear F0
    obtain ⟨i, hi, rfl, rfl, rfl, hB, h1, h2, h3⟩ := hrel
    by_cases hlt : i < 2
    · have hii : (i : Int) < 2 := by omega
      have hc : wr.cell? ⟨g + 1, i, none⟩ = some (.string (pick p q i)) := by
        rw [h2.cell]
        have : i = 0 ∨ i = 1 := by omega
        rcases this with rfl | rfl <;> rfl
      obtain ⟨s, hs⟩ : ∃ s, s = pick p q i := ⟨_, rfl⟩
      rw [← hs] at hc
      have hsz : s.size ≤ 9223372036854775807 := by rw [hs]; unfold pick; split <;> assumption
      have hup : upS p q (i + 1) = more (upS p q i) i (readS s) := by rw [hs]; rfl
      have HUP : Hid (upS p q (i + 1) = more (upS p q i) i (readS s)) := hup
      clear hs hup
      obtain ⟨o, ho⟩ : ∃ o, o = upS p q i := ⟨_, rfl⟩
      rw [← ho] at h3 HUP ⊢
      clear ho
      have hTr := hT.below hB
      go_wp2_with fail
      refine (read_any s _ hTr hsz).mono ?_
      rintro e w2 ⟨rfl, hB2⟩
      have F : Hid (Below w.heap.size w w2 ∧ Holds w2 g 43 (m4A zeroM) ∧ Holds w2 (g + 1) 147 #[.string p, .string q] ∧ Holds w2 (g + 1 + 1) 43 (m4A (newM o))) := ⟨hB.trans (hB2.mono hB.size), Below.holds hB2 h1, Below.holds hB2 h2, Below.holds hB2 h3⟩
      clear hB h1 h2 h3 hc hB2 hTr
      have HL : Hid (g + 1 + 1 < w2.heap.size) := F.out.2.2.2.lt
      cases hr : readS s with
      | none =>
        have hup : Hid (upS p q (i + 1) = o) := by have := HUP.out; rw [hr] at this; exact this
        obtain ⟨r1, r2⟩ := read_no hr
        rw [r1, r2]
        obtain ⟨eo, heo⟩ : ∃ eo, eo = newE o := ⟨_, rfl⟩
        rw [← heo]
        have HEO : Hid (eo = newE o) := heo
        clear r1 r2 hr HUP heo
        go_wp2_with (first
          | (refine wpList_storeH rfl 43 _ _ rfl w2.heap.size #[.int .i64 0, .int .i64 0, .int .i64 0, .int .i64 0] rfl rfl 43 #[.int .i64 0, .int .i64 0, .int .i64 0, .int .i64 0] (Holds.new w2 _ _) infoMeta rfl (m4A_one zeroM) ?_
             intro w6 h6 o6 z6)
          | fail)
        have F6 : Hid (Below w.heap.size w w6 ∧ Holds w6 g 43 (m4A zeroM) ∧ Holds w6 (g + 1) 147 #[.string p, .string q] ∧ Holds w6 (g + 1 + 1) 43 (m4A (newM o))) := ⟨Only.fresh (F.out.1.alloc F.out.1.size _) o6 F.out.1.size, o6.holds (F.out.2.1.alloc _) (by have := HL.out; omega), o6.holds (F.out.2.2.1.alloc _) (by have := HL.out; omega), o6.holds (F.out.2.2.2.alloc _) (by have := HL.out; omega)⟩
        refine ⟨⟨i + 1, by omega, by go_num, ?_⟩, by simp [intOf]; omega⟩
        rw [hup.out, HEO.out]
        exact ⟨rfl, rfl, F6.out⟩
      | some m =>
        obtain ⟨r1, r2⟩ := read_yes hr
        rw [r1, r2]
        have hms := read_small hr
        have hmt : (m.tx : Int) ≤ 9223372036854775807 := by have := hms.1; omega
        have HUP2 : Hid (upS p q (i + 1) = more o i (some m)) := by have := HUP.out; rw [hr] at this; exact this
        clear r1 r2 hr HUP hms
        have hone := m4A_one m
        have hisz : (Tryz.prog.info? 43).map (·.size) = some (m4A m).size := infoMeta
        have hzs : (#[.int .i64 0, .int .i64 0, .int .i64 0, .int .i64 0] : Array Value).size = (m4A m).size := rfl
        have hc0 : (m4A m)[0]? = some (.int .i64 m.tx) := rfl
        obtain ⟨cs, hcs⟩ : ∃ cs, cs = m4A m := ⟨_, rfl⟩
        rw [← hcs] at hone hisz hzs hc0 ⊢
        have HCS : Hid (cs = m4A m) := hcs
        clear hcs
        cases o with
        | none =>
          rw [show newE none = 17 from rfl]
          go_wp2_with (first
            | (refine wpList_storeH rfl 43 _ _ rfl w2.heap.size cs rfl rfl 43 #[.int .i64 0, .int .i64 0, .int .i64 0, .int .i64 0] (Holds.new w2 _ _) hisz hzs hone ?_
               intro w6 h6 o6 z6
               have F6 : Hid (Below w.heap.size w w6 ∧ Holds w6 g 43 (m4A zeroM) ∧ Holds w6 (g + 1) 147 #[.string p, .string q] ∧ Holds w6 (g + 1 + 1) 43 (m4A (newM none))) := ⟨Only.fresh (F.out.1.alloc F.out.1.size _) o6 F.out.1.size, o6.holds (F.out.2.1.alloc _) (by have := HL.out; omega), o6.holds (F.out.2.2.1.alloc _) (by have := HL.out; omega), o6.holds (F.out.2.2.2.alloc _) (by have := HL.out; omega)⟩)
            | (refine wpList_loadG rfl 43 (.tmp 12) rfl w2.heap.size rfl 43 _ _ h6 Tryz.underlying43 rfl hisz ?_)
            | (refine wpList_storeH rfl 43 _ _ rfl (g + 1 + 1) cs rfl rfl 43 _ F6.out.2.2.2 hisz hzs hone ?_
               intro w7 h7 o7 z7)
            | fail)
          refine ⟨⟨i + 1, by omega, by go_num, ?_⟩, by simp [intOf]; omega⟩
          rw [HUP2.out]
          rw [HCS.out] at h7
          exact ⟨rfl, rfl, Only.fresh F6.out.1 o7 (by have := HG.out; omega), o7.holds F6.out.2.1 (by omega), o7.holds F6.out.2.2.1 (by omega), h7⟩
        | some nk =>
          obtain ⟨n, k⟩ := nk
          rw [show newE (some (n, k)) = 0 from rfl]
          by_cases hgt : n.tx < m.tx
          · have hgti : (n.tx : Int) < m.tx := by omega
            have hup : more (some (n, k)) i (some m) = some (m, i) := if_pos hgt
            rw [hup] at HUP2
            go_wp2_with (first
              | (refine wpList_storeH rfl 43 _ _ rfl w2.heap.size cs rfl rfl 43 #[.int .i64 0, .int .i64 0, .int .i64 0, .int .i64 0] (Holds.new w2 _ _) hisz hzs hone ?_
                 intro w6 h6 o6 z6
                 have F6 : Hid (Below w.heap.size w w6 ∧ Holds w6 g 43 (m4A zeroM) ∧ Holds w6 (g + 1) 147 #[.string p, .string q] ∧ Holds w6 (g + 1 + 1) 43 (m4A (newM (some (n, k))))) := ⟨Only.fresh (F.out.1.alloc F.out.1.size _) o6 F.out.1.size, o6.holds (F.out.2.1.alloc _) (by have := HL.out; omega), o6.holds (F.out.2.2.1.alloc _) (by have := HL.out; omega), o6.holds (F.out.2.2.2.alloc _) (by have := HL.out; omega)⟩
                 have c1 : w6.cell? ⟨w2.heap.size, 0, none⟩ = some (.int .i64 m.tx) := (h6.cell 0).trans hc0
                 have c2 : w6.cell? ⟨g + 1 + 1, 0, none⟩ = some (.int .i64 n.tx) := F6.out.2.2.2.cell 0)
              | (refine wpList_loadG rfl 43 (.tmp 12) rfl w2.heap.size rfl 43 _ _ h6 Tryz.underlying43 rfl hisz ?_)
              | (refine wpList_storeH rfl 43 _ _ rfl (g + 1 + 1) cs rfl rfl 43 _ F6.out.2.2.2 hisz hzs hone ?_
                 intro w7 h7 o7 z7)
              | fail)
            refine ⟨⟨i + 1, by omega, by go_num, ?_⟩, by simp [intOf]; omega⟩
            rw [HUP2.out]
            rw [HCS.out] at h7
            exact ⟨rfl, rfl, Only.fresh F6.out.1 o7 (by have := HG.out; omega), o7.holds F6.out.2.1 (by omega), o7.holds F6.out.2.2.1 (by omega), h7⟩
          · have hgti : ¬ (n.tx : Int) < m.tx := by omega
            have hup : more (some (n, k)) i (some m) = some (n, k) := if_neg hgt
            rw [hup] at HUP2
            go_wp2_with (first
              | (refine wpList_storeH rfl 43 _ _ rfl w2.heap.size cs rfl rfl 43 #[.int .i64 0, .int .i64 0, .int .i64 0, .int .i64 0] (Holds.new w2 _ _) hisz hzs hone ?_
                 intro w6 h6 o6 z6
                 have F6 : Hid (Below w.heap.size w w6 ∧ Holds w6 g 43 (m4A zeroM) ∧ Holds w6 (g + 1) 147 #[.string p, .string q] ∧ Holds w6 (g + 1 + 1) 43 (m4A (newM (some (n, k))))) := ⟨Only.fresh (F.out.1.alloc F.out.1.size _) o6 F.out.1.size, o6.holds (F.out.2.1.alloc _) (by have := HL.out; omega), o6.holds (F.out.2.2.1.alloc _) (by have := HL.out; omega), o6.holds (F.out.2.2.2.alloc _) (by have := HL.out; omega)⟩
                 have c1 : w6.cell? ⟨w2.heap.size, 0, none⟩ = some (.int .i64 m.tx) := (h6.cell 0).trans hc0
                 have c2 : w6.cell? ⟨g + 1 + 1, 0, none⟩ = some (.int .i64 n.tx) := F6.out.2.2.2.cell 0)
              | fail)
            refine ⟨⟨i + 1, by omega, by go_num, ?_⟩, by simp [intOf]; omega⟩
            rw [HUP2.out]
            exact ⟨rfl, rfl, F6.out⟩
    · have hii : ¬ (i : Int) < 2 := by omega
      obtain rfl : i = 2 := by omega
      obtain ⟨o, ho⟩ : ∃ o, o = upS p q 2 := ⟨_, rfl⟩
      rw [← ho] at h3 ⊢
      have HO : Hid (o = upS p q 2) := ho
      clear ho
      obtain ⟨cs, hcs⟩ : ∃ cs, cs = m4A (newM o) := ⟨_, rfl⟩
      have hone := m4A_one (newM o)
      have hisz : (Tryz.prog.info? 43).map (·.size) = some (m4A (newM o)).size := infoMeta
      have hzs : (m4A zeroM).size = (m4A (newM o)).size := rfl
      rw [← hcs] at hone hisz hzs h3
      have HCS : Hid (cs = m4A (newM o)) := hcs
      clear hcs h2
      go_wp2_with (first
        | (refine wpList_loadG rfl 43 (.tmp 8) rfl (g + 1 + 1) rfl 43 _ _ h3 Tryz.underlying43 rfl hisz ?_)
        | (refine wpList_storeH rfl 43 _ _ rfl g cs rfl rfl 43 _ h1 hisz hzs hone ?_
           intro w7 h7 o7 z7)
        | fail)
      refine bodyPost_ret (results_three (p := 4) (u := 5) (v := 6) rfl _ w7 g 43 _ _ rfl h7 Tryz.underlying43 rfl hisz) rfl ⟨?_, ?_⟩
      · rw [← HO.out, ← HCS.out]; rfl
      · exact Only.fresh hB o7 (by have := HG.out; omega)
end Go.Proofs.YtjklcnknbcmgoaaGreatDoor.K
