/-
  What Union does.
-/
import Derived.Test.YtbenfmhcpipehaaBCut2
import Derived.Test.YtbenfmhcpipehaaBLeastW
namespace Go.Proofs.Ytbenfmhcpipehaa
open Go Go.RowKit Go.Maps

/-- What is put together so far. -/
def uniTo (A B : Nat → Bool) (i : Nat) (n : Nat) : Bool := (decide (0 < i) && A n) || (decide (1 < i) && B n)
/-- .. in the midst of a round. -/
def uniIn (K X lf : Nat → Bool) (n : Nat) : Bool := K n || (X n && !lf (n / 256))
theorem uniIn_start (K X : Nat → Bool) : uniIn K X (liveB X) = K := by
  funext n
  unfold uniIn
  cases h : X n with
  | false => simp
  | true =>
    have : liveB X (n / 256) = true := liveB_iff.2 ⟨n % 256, by omega, by rw [show 256 * (n / 256) + n % 256 = n by omega]; exact h⟩
    simp [this]
theorem uniIn_end {K X lf : Nat → Bool} (h : ∀ u, lf u = false) : uniIn K X lf = fun n => K n || X n := by
  funext n
  unfold uniIn
  simp [h]
theorem uniIn_step {K X lf : Nat → Bool} {u : Nat} (h : lf u = true) : setU (uniIn K X lf) u (fun l => atU (uniIn K X lf) u l || atU X u l) = uniIn K X (fun v => lf v && !decide (v = u)) := by
  funext n
  unfold setU
  by_cases e : n / 256 = u
  · rw [if_pos e]
    unfold atU uniIn
    dsimp only
    rw [show 256 * u + n % 256 = n by omega, e, h]
    simp
  · rw [if_neg e]
    unfold uniIn
    simp [e]
theorem RangV.onlyB {w w' : World} {r : Nat} {M lf : Nat → Bool} {cnt : Nat} {mo : Option Nat} (h : RangV w r M lf cnt mo) {b : Nat} (k : Only b w w') (h1 : r ≠ b) (h2 : ∀ m, mo = some m → m ≠ b) : RangV w' r M lf cnt mo :=
  h.block (k.block r h.lt h1) (fun m hm => k.block m (h.map.lt m hm) (h2 m hm))
theorem View.pointer {w : World} {s : Value} {mo : Option Nat} {M : Nat → Bool} (h : View w s mo M) : ∃ p, s = .pointer p := by
  rcases h.ptr with ⟨h, _⟩ | ⟨b, h, _⟩
  · exact ⟨_, h⟩
  · exact ⟨_, h⟩
theorem run_two {a b v : Value} {k : Nat} (hk : k < 2) (hg : #[a, b][k]? = some v) (w : World) : (Instr.index 78 (.agg #[a, b]) (.int .i64 (k : Nat))).run Try.prog w = .ok v w := by
  have hz : (sizeOf 24).run Try.prog w = .ok 1 w := by simp [go_sem]
  have ha : (isAgg 24).run Try.prog w = .ok false w := by simp [go_sem]
  rcases (by omega : k = 0 ∨ k = 1) with rfl | rfl
  all_goals
    simp at hg
    subst hg
    simp [Instr.index, asIntOf, Sem.run_bind, run_underlying Try.underlying78, Result.andThen, hz, part, ha]
theorem MapAt.congr {w : World} {m : Nat} {M N : Nat → Bool} (h : MapAt w m M) (e : M = N) : MapAt w m N := e ▸ h

set_option maxRecDepth 8000 in
set_option maxHeartbeats 2000000 in
theorem union_any {w : World} {s o : Value} {ms mo : Option Nat} {A B : Nat → Bool} (hs : View w s ms A) (ho : View w o mo B) :
    Calls Try.prog 13 #[s, o] w fun e w' => ∃ b, e = .returned (.pointer (some ⟨b, 0, none⟩)) ∧ ∃ m, SetAt w' b (some m) (fun n => A n || B n) ∧ w.heap.size ≤ b ∧ w.heap.size ≤ m ∧ Below w.heap.size w w' := by
  obtain ⟨ps, rfl⟩ := hs.pointer
  obtain ⟨po, rfl⟩ := ho.pointer
  obtain ⟨W0, hW0⟩ : ∃ W0, World.alloc w (.map #[] 0) = W0 := ⟨_, rfl⟩
  have hB0 : Below w.heap.size w W0 := by rw [← hW0]; exact below_new1 _ _
  have hm0 : MapAt W0 w.heap.size (uniTo A B 0) := by rw [← hW0]; exact MapAt.made w _ (fun n => by simp [uniTo])
  have hms := hs.map.lt
  have hmo := ho.map.lt
  have hmm := @run_makeMap Try.prog
  have hx0 := fun w => run_two (a := .pointer ps) (b := .pointer po) (k := 0) (by decide) rfl w
  have hx1 := fun w => run_two (a := .pointer ps) (b := .pointer po) (k := 1) (by decide) rfl w
  rw [show ((0 : Nat) : Int) = 0 from rfl] at hx0
  rw [show ((1 : Nat) : Int) = 1 from rfl] at hx1
  go_enter Try.func13, Try.ntmps13
  go_wp2_with fail
  clear hW0
  go_loopw [14] (fun y wr => ∃ i : Nat, y = .int .i64 (i : Nat) ∧ i ≤ 2 ∧ MapAt wr w.heap.size (uniTo A B i) ∧ Below w.heap.size w wr) (fun y _ => 2 - (intOf y).toNat)
  case atStart => exact ⟨0, rfl, by decide, hm0, hB0⟩
  case round =>
    obtain ⟨i, rfl, hi, hmr, hBr⟩ := hrel
    clear hm0 hB0
    have hcase : i = 0 ∨ i = 1 ∨ i = 2 := by omega
    rcases hcase with rfl | rfl | rfl
    · have hvr := hs.below hBr
      have hh := held_any hvr
      obtain ⟨K, hK⟩ : ∃ K, uniTo A B 0 = K := ⟨_, rfl⟩
      rw [hK] at hmr
      have HK : Hid (uniTo A B 0 = K) := hK
      clear hK
      rw [show ((0 : Nat) : Int) = 0 from rfl]
      go_wp2_with (first
        | (go_at_call 41; refine hh.mono ?_; rintro e w1 ⟨rfl, rfl⟩)
        | (at_range; refine wpList_rangeV rfl _ rfl rfl hvr.map ?_; intro wA cnt0 hrg0 hB1 hs0; clear hs0)
        | go_in)
      go_frame
      have hwz : w.heap.size < w1.heap.size := hmr.lt
      have hmA : MapAt wA w.heap.size (uniIn K A (liveB A)) := (hmr.block (hB1.block _ hmr.lt)).congr (uniIn_start K A).symm
      have hBA := hBr.trans (hB1.mono hBr.size)
      go_loopw [20] (fun _ wq => ∃ (lf : Nat → Bool) (ct : Nat), RangV wq w1.heap.size A lf ct ms ∧ MapAt wq w.heap.size (uniIn K A lf) ∧ Below w.heap.size w wq ∧ w1.heap.size ≤ wq.heap.size) (fun _ wq => leftV wq w1.heap.size ms)
      case atStart => exact ⟨_, _, hrg0, hmA, hBA, hB1.size⟩
      case round =>
        obtain ⟨lf, ct, hrg, hmq, hBq, hsq⟩ := hrel
        clear hrg0 hmA hBA hmr
        go_wp2_with (first
          | (at_next; refine wpList_nextV rfl _ rfl rfl hrg ?_ ?_)
          | go_in)
        · intro hl0
          rw [uniIn_end hl0] at hmq
          go_wp2_with fail
          have e : (fun n => K n || A n) = uniTo A B (0 + 1) := by rw [← HK.out]; funext n; simp [uniTo]
          refine ⟨⟨0 + 1, rfl, by decide, hmq.congr e, hBq⟩, ?_⟩
          simp [intOf]
        · intro u w2 ct2 hu hlv hlf hrg2 hlt hO hsz hen
          clear hsz
          have hlc := hrg.left
          have hm2 := hmq.block (hO.block _ hmq.lt (by omega))
          have hB2 : Below w.heap.size w w2 := Only.fresh hBq hO (by omega)
          have hst := uniIn_step (K := K) (X := A) hlf
          have hJ := joined_any (atU (uniIn K A lf) u) (atU A u)
          have hjl : ∃ l, l < 256 ∧ (fun l => atU (uniIn K A lf) u l || atU A u l) l = true := by
            obtain ⟨l, h1, h2⟩ := hlv
            exact ⟨l, h1, by simp [atU, h2]⟩
          have hC := IsC.mk (atU A u)
          have hZ := IsC.mk fun _ => false
          obtain ⟨W3, hW⟩ : ∃ W3, World.alloc w2 (.cells (contA fun _ => false) 74) = W3 := ⟨_, rfl⟩
          have h1 : Holds W3 w2.heap.size 74 (contA fun _ => false) := by rw [← hW]; exact Holds.new _ _ _
          have hB3 : Below w2.heap.size w2 W3 := by rw [← hW]; exact below_new1 _ _
          rw [zeroC] at hW
          generalize hcs : contA (atU A u) = cs at hen hJ hC
          generalize hcs2 : contA (atU (uniIn K A lf) u) = cs2 at hJ
          generalize hcs3 : (contA fun l => atU (uniIn K A lf) u l || atU A u l) = cs3 at hJ
          have HC3 : Hid ((contA fun l => atU (uniIn K A lf) u l || atU A u l) = cs3) := hcs3
          have HC2 : Hid (contA (atU (uniIn K A lf) u) = cs2) := hcs2
          have huN := hu
          rw [NU_eq] at huN
          clear hcs hcs2 hcs3 hmq hlv
          go_wp2_with (first
            | (refine wpList_stK rfl _ _ rfl rfl rfl h1 hC hZ ?_; intro W4 h2 hO4 hs4; clear hs4; have hB4 : Below w2.heap.size w2 W4 := Only.fresh hB3 hO4 (Nat.le_refl _); have hm4 := hm2.block (hB4.block _ hm2.lt); have hlk := run_look hm4 (u := (u : Int)) (wfI (by omega) (by omega)); rw [atI_nat, HC2.out] at hlk)
            | (refine wpList_ldK rfl _ rfl rfl h2 hC ?_)
            | (go_at_call 46; refine (hJ _).mono ?_; rintro e w5 ⟨rfl, hB5⟩; have hm5 := hm4.block (hB5.block _ hm4.lt))
            | (refine wpList_updK rfl _ _ _ rfl rfl rfl rfl HC3.out.symm hm5 hu hjl ?_; intro W6 hm6 hO6 hs6; clear hs6))
          have hB25 := below_new hB4 hB5
          have hrg5 := hrg2.below hB25
          have hrg6 := hrg5.onlyB hO6 (by omega) (fun m hm => by have := hms m hm; omega)
          have hB6 : Below w.heap.size w W6 := Only.fresh (hB2.trans (hB25.mono hB2.size)) hO6 (Nat.le_refl _)
          have hszq : w1.heap.size ≤ W6.heap.size := by have := hO6.size; have := hB25.size; have := hO.size; omega
          refine ⟨⟨_, _, _, _, _, _, _, _, _, _, _, _, _, _, ⟨_, _, hrg6, hm6.congr hst, hB6, hszq⟩, rfl⟩, ?_⟩
          rw [hrg6.left, hlc]; exact hlt
    · have hvr := ho.below hBr
      have hh := held_any hvr
      obtain ⟨K, hK⟩ : ∃ K, uniTo A B 1 = K := ⟨_, rfl⟩
      rw [hK] at hmr
      have HK : Hid (uniTo A B 1 = K) := hK
      clear hK
      rw [show ((1 : Nat) : Int) = 1 from rfl]
      go_wp2_with (first
        | (go_at_call 41; refine hh.mono ?_; rintro e w1 ⟨rfl, rfl⟩)
        | (at_range; refine wpList_rangeV rfl _ rfl rfl hvr.map ?_; intro wA cnt0 hrg0 hB1 hs0; clear hs0)
        | go_in)
      go_frame
      have hwz : w.heap.size < w1.heap.size := hmr.lt
      have hmA : MapAt wA w.heap.size (uniIn K B (liveB B)) := (hmr.block (hB1.block _ hmr.lt)).congr (uniIn_start K B).symm
      have hBA := hBr.trans (hB1.mono hBr.size)
      go_loopw [20] (fun _ wq => ∃ (lf : Nat → Bool) (ct : Nat), RangV wq w1.heap.size B lf ct mo ∧ MapAt wq w.heap.size (uniIn K B lf) ∧ Below w.heap.size w wq ∧ w1.heap.size ≤ wq.heap.size) (fun _ wq => leftV wq w1.heap.size mo)
      case atStart => exact ⟨_, _, hrg0, hmA, hBA, hB1.size⟩
      case round =>
        obtain ⟨lf, ct, hrg, hmq, hBq, hsq⟩ := hrel
        clear hrg0 hmA hBA hmr
        go_wp2_with (first
          | (at_next; refine wpList_nextV rfl _ rfl rfl hrg ?_ ?_)
          | go_in)
        · intro hl0
          rw [uniIn_end hl0] at hmq
          go_wp2_with fail
          have e : (fun n => K n || B n) = uniTo A B (1 + 1) := by rw [← HK.out]; funext n; simp [uniTo]
          refine ⟨⟨1 + 1, rfl, by decide, hmq.congr e, hBq⟩, ?_⟩
          simp [intOf]
        · intro u w2 ct2 hu hlv hlf hrg2 hlt hO hsz hen
          clear hsz
          have hlc := hrg.left
          have hm2 := hmq.block (hO.block _ hmq.lt (by omega))
          have hB2 : Below w.heap.size w w2 := Only.fresh hBq hO (by omega)
          have hst := uniIn_step (K := K) (X := B) hlf
          have hJ := joined_any (atU (uniIn K B lf) u) (atU B u)
          have hjl : ∃ l, l < 256 ∧ (fun l => atU (uniIn K B lf) u l || atU B u l) l = true := by
            obtain ⟨l, h1, h2⟩ := hlv
            exact ⟨l, h1, by simp [atU, h2]⟩
          have hC := IsC.mk (atU B u)
          have hZ := IsC.mk fun _ => false
          obtain ⟨W3, hW⟩ : ∃ W3, World.alloc w2 (.cells (contA fun _ => false) 74) = W3 := ⟨_, rfl⟩
          have h1 : Holds W3 w2.heap.size 74 (contA fun _ => false) := by rw [← hW]; exact Holds.new _ _ _
          have hB3 : Below w2.heap.size w2 W3 := by rw [← hW]; exact below_new1 _ _
          rw [zeroC] at hW
          generalize hcs : contA (atU B u) = cs at hen hJ hC
          generalize hcs2 : contA (atU (uniIn K B lf) u) = cs2 at hJ
          generalize hcs3 : (contA fun l => atU (uniIn K B lf) u l || atU B u l) = cs3 at hJ
          have HC3 : Hid ((contA fun l => atU (uniIn K B lf) u l || atU B u l) = cs3) := hcs3
          have HC2 : Hid (contA (atU (uniIn K B lf) u) = cs2) := hcs2
          have huN := hu
          rw [NU_eq] at huN
          clear hcs hcs2 hcs3 hmq hlv
          go_wp2_with (first
            | (refine wpList_stK rfl _ _ rfl rfl rfl h1 hC hZ ?_; intro W4 h2 hO4 hs4; clear hs4; have hB4 : Below w2.heap.size w2 W4 := Only.fresh hB3 hO4 (Nat.le_refl _); have hm4 := hm2.block (hB4.block _ hm2.lt); have hlk := run_look hm4 (u := (u : Int)) (wfI (by omega) (by omega)); rw [atI_nat, HC2.out] at hlk)
            | (refine wpList_ldK rfl _ rfl rfl h2 hC ?_)
            | (go_at_call 46; refine (hJ _).mono ?_; rintro e w5 ⟨rfl, hB5⟩; have hm5 := hm4.block (hB5.block _ hm4.lt))
            | (refine wpList_updK rfl _ _ _ rfl rfl rfl rfl HC3.out.symm hm5 hu hjl ?_; intro W6 hm6 hO6 hs6; clear hs6))
          have hB25 := below_new hB4 hB5
          have hrg5 := hrg2.below hB25
          have hrg6 := hrg5.onlyB hO6 (by omega) (fun m hm => by have := hmo m hm; omega)
          have hB6 : Below w.heap.size w W6 := Only.fresh (hB2.trans (hB25.mono hB2.size)) hO6 (Nat.le_refl _)
          have hszq : w1.heap.size ≤ W6.heap.size := by have := hO6.size; have := hB25.size; have := hO.size; omega
          refine ⟨⟨_, _, _, _, _, _, _, _, _, _, _, _, _, _, ⟨_, _, hrg6, hm6.congr hst, hB6, hszq⟩, rfl⟩, ?_⟩
          rw [hrg6.left, hlc]; exact hlt
    · have e : uniTo A B 2 = fun n => A n || B n := by funext n; simp [uniTo]
      rw [e] at hmr
      rw [show ((2 : Nat) : Int) = 2 from rfl]
      go_wp2_with fail
      go_ret
      exact ⟨wr.heap.size, rfl, w.heap.size, ⟨Holds.new wr _ _, hmr.block (Below.heap_alloc _ _ _ hmr.lt)⟩, hBr.size, Nat.le_refl _, hBr.alloc hBr.size _⟩
end Go.Proofs.Ytbenfmhcpipehaa
