/-
  DiskArms' walk.
-/
import Derived.Test.YtonmjkalkkfhhaaDAwake
namespace Go.Proofs.Ytonmjkalkkfhhaa
open Go Go.RowKit Go.Maps

theorem begin_on {D : Dev} (h : D.off = false) : D.begin true = (D.next.1, { D.next.2 with ops := if D.next.1 = 0 then D.next.2.ops + 1 else D.next.2.ops, off := decide (D.next.1 = 15) }) := by
  unfold Dev.begin
  rw [if_neg (by rw [h]; decide), if_pos rfl]
theorem next_left {D : Dev} (h : ¬ (D.armed = true ∧ D.left = 0)) : D.next = (if (D.fails (D.count + 1)).isSome then 14 else 0, { D with left := if D.armed then D.left - 1 else D.left, count := D.count + 1 }) := by
  unfold Dev.next
  rw [if_neg h]
theorem next_gone {D : Dev} (h : D.armed = true ∧ D.left = 0) : D.next = (15, D) := by
  unfold Dev.next
  rw [if_pos h]

/-- A device that was armed, behind so many writes. -/
def Armed (n i : Nat) (D : Dev) : Prop := D.ok i ∧ D.size = 50 ∧ D.fails = (fun _ => none) ∧ ((i ≤ n ∧ D.off = false ∧ D.armed = true ∧ D.left = (n : Int) - i ∧ D.ops = i) ∨ (n < i ∧ D.off = true ∧ D.ops = n))
theorem Armed.step {n i : Nat} {D : Dev} (h : Armed n i D) (hi : i < 40) {s : ByteArray} (hs : s.size = 1024) : (D.write (i : Int) s).1 = (if i < n then 0 else 15) ∧ Armed n (i + 1) (D.write (i : Int) s).2 := by
  obtain ⟨hok, hsz, hfl, h⟩ := h
  have hok2 := write_ok hok (i : Int) s
  have hr : (D.has (i : Int) && decide (s.size = 1024)) = true := by
    unfold Dev.has
    rw [hsz, decide_eq_true (show (0 : Int) ≤ i by omega), decide_eq_true (show (i : Int) < 50 by omega), decide_eq_true hs]
    rfl
  rcases h with ⟨h1, h2, h3, h4, h5⟩ | ⟨h1, h2, h3⟩
  · by_cases hin : i < n
    · have hb : D.begin true = (0, { D with left := D.left - 1, count := D.count + 1, ops := D.ops + 1 }) := by
        rw [begin_on h2, next_left (fun q => by have := q.2; omega), hfl, h3]
        simp [h2]
      have hw : D.write (i : Int) s = (0, { D with left := D.left - 1, count := D.count + 1, ops := D.ops + 1, pages := setM D.pages i (some (s, ((D.pages i).getD (⟨#[]⟩, ⟨#[]⟩)).2)), writes := D.writes ++ [((i : Int), s)] }) := by
        unfold Dev.write
        rw [hr, hb, if_pos rfl]
      rw [if_pos hin]
      refine ⟨by rw [hw], hok2, ?_⟩
      rw [hw]
      exact ⟨hsz, hfl, .inl ⟨by omega, h2, h3, by dsimp only; rw [h4]; omega, by dsimp only; rw [h5]; omega⟩⟩
    · have hb : D.begin true = (15, { D with off := true }) := by
        rw [begin_on h2, next_gone ⟨h3, by omega⟩]
        simp
      have hw : D.write (i : Int) s = (15, { D with off := true }) := by
        unfold Dev.write
        rw [hr, hb, if_neg (fun q => by cases q)]
      rw [if_neg hin]
      refine ⟨by rw [hw], hok2, ?_⟩
      rw [hw]
      exact ⟨hsz, hfl, .inr ⟨by omega, rfl, by dsimp only; rw [h5]; omega⟩⟩
  · have hb : D.begin true = (15, D) := by
      unfold Dev.begin
      rw [h2, if_pos rfl]
    have hw : D.write (i : Int) s = (15, D) := by
      unfold Dev.write
      rw [hr, hb, if_neg (fun q => by cases q)]
    rw [if_neg (show ¬ i < n by omega)]
    refine ⟨by rw [hw], hok2, ?_⟩
    rw [hw]
    exact ⟨hsz, hfl, .inr ⟨by omega, h2, h3⟩⟩
theorem read_off {D : Dev} (h : D.off = true) (n : Int) : D.read n = (⟨#[]⟩, 15, D) := by
  unfold Dev.read Dev.begin
  rw [h, if_pos rfl, if_neg (fun q => by cases q)]
theorem sync_off {D : Dev} (h : D.off = true) : D.sync = (15, D) := by
  unfold Dev.sync Dev.begin
  rw [h, if_pos rfl, if_neg (fun q => by cases q)]
theorem fill_nat (k : Nat) (hk : k < 256) (w : World) : ∃ S : ByteArray, S.size = 1024 ∧ S = fillOf 1024 (UInt8.ofNat k) ∧ Calls Try.prog 29 #[.int .u8 (k : Nat)] w fun e w' => e = .returned (.string S) ∧ Below w.heap.size w w' := by
  refine ⟨_, fillOf_size _ _, rfl, ?_⟩
  have := fill_any (UInt8.ofNat k) w
  rw [show (UInt8.ofNat k).toNat = k by simp; omega] at this
  exact this

set_option maxRecDepth 100000 in
set_option maxHeartbeats 4000000 in
theorem arms_walk {w : World} (ops : Int) {p : Option Addr} {m c : Nat} {l : List Int} (hl : IntsAt w (.slice p m c) l) (hml : m = l.length) (hmc : m ≤ c) (hc : c ≤ 9223372036854775807) :
    Calls Try.prog 7 #[.int .i64 ops, .slice p m c] w fun e w' => e = .returned (.bool true) ∧ Below w.heap.size w w' := by
  have hq := ptr_eql
  obtain ⟨n, hn⟩ : ∃ n : Nat, n = (ops.tmod 31).natAbs := ⟨_, rfl⟩
  have hn30 : n ≤ 30 := by
    have := Int.tmod_lt_of_pos ops (show (0 : Int) < 31 by decide)
    have := Int.lt_tmod_of_pos ops (show (0 : Int) < 31 by decide)
    omega
  have hlm : l.length ≤ 9223372036854775807 := by omega
  subst hml
  by_cases hneg : ops.tmod 31 < 0
  · have hni : -(ops.tmod 31) = (n : Int) := by omega
    clear hn
    go_enter Try.func7, Try.ntmps7
    go_wp2_with fail
    refine (awake_any _).mono ?_
    rintro e w1 ⟨rfl, hB1⟩
    go_wp2_with fail
    refine (own_new 50 _).mono ?_
    rintro e w2 ⟨b, rfl, o0⟩
    have o0' : Own w w2 b (Dev.new 50) := by
      obtain ⟨h, q1, q2, q3, q4⟩ := o0
      exact ⟨h, q1, q2, fun k hk => by have := q3 k hk; have := hB1.size; omega, below_new hB1 q4⟩
    clear o0
    go_wp2_with fail
    refine (own_arm o0' n).mono ?_
    rintro e w3 ⟨rfl, o1⟩
    have hA0 : Armed n 0 { Dev.new 50 with armed := true, left := max (n : Int) 0 } := by
      have ok := Dev.new_ok 50 0
      exact ⟨⟨ok.size, ok.keys, ok.texts, ok.writes, ok.many, ok.ops, by dsimp only; omega, ok.count⟩, rfl, rfl, .inl ⟨by omega, rfl, rfl, by dsimp only; omega, rfl⟩⟩
    generalize ({ Dev.new 50 with armed := true, left := max (n : Int) 0 } : Dev) = D0 at o1 hA0
    clear o0' hB1
    go_wp2_with fail
    go_loopw [8] (fun y wr => ∃ (i : Nat) (D : Dev), y = .int .i64 (i : Nat) ∧ i ≤ 40 ∧ Armed n i D ∧ Own w wr b D) (fun y _ => 40 - (intOf y).toNat)
    case atStart => exact ⟨0, D0, rfl, by omega, hA0, o1⟩
    case round =>
      obtain ⟨i, D, rfl, hi40, hA, o⟩ := hrel
      by_cases hi : i < 40
      · have hii : (i : Int) < 40 := by omega
        obtain ⟨S, hS1, hSe, hS2⟩ := fill_nat (i + 1) (by omega) wr
        clear hSe
        have hst := hA.step hi hS1
        have hcv : ((i + 1 : Nat) : Int) = (i : Int) + 1 := by omega
        rw [hcv] at hS2
        by_cases hin : i < n
        · have hini : (i : Int) < n := by omega
          rw [if_pos hin] at hst
          go_wp2_with fail
          refine hS2.mono ?_
          rintro e w5 ⟨rfl, hB5⟩
          have hwr := own_write (o.below hB5) hA.1 (by omega) (i : Int) (by omega) S
          rw [hst.1] at hwr
          go_wp2_with fail
          refine hwr.mono ?_
          rintro e w6 ⟨rfl, o6⟩
          clear hwr hS2
          have HA : Hid (Armed n (i + 1) (D.write (i : Int) S).2) := hst.2
          clear hst hA
          go_wp2_with fail
          go_roundw
          case rel => exact ⟨i + 1, _, by go_num, by omega, HA.out, o6⟩
          case measure => simp [intOf]; omega
        · have hini : ¬ (i : Int) < n := by omega
          have hini2 : (n : Int) ≤ i := by omega
          rw [if_neg hin] at hst
          go_wp2_with fail
          refine hS2.mono ?_
          rintro e w5 ⟨rfl, hB5⟩
          have hwr := own_write (o.below hB5) hA.1 (by omega) (i : Int) (by omega) S
          rw [hst.1] at hwr
          go_wp2_with fail
          refine hwr.mono ?_
          rintro e w6 ⟨rfl, o6⟩
          clear hwr hS2
          have HA : Hid (Armed n (i + 1) (D.write (i : Int) S).2) := hst.2
          clear hst hA
          go_wp2_with fail
          go_roundw
          case rel => exact ⟨i + 1, _, by go_num, by omega, HA.out, o6⟩
          case measure => simp [intOf]; omega
      · have hii : ¬ (i : Int) < 40 := by omega
        obtain ⟨hok, hsz, hfl, hst⟩ := hA
        obtain ⟨hoff, hop⟩ : D.off = true ∧ D.ops = n := by
          rcases hst with q | q
          · omega
          · exact q.2
        clear hst
        have hrd := own_read o hok (by omega) 0 (by omega)
        rw [read_off hoff] at hrd
        go_wp2_with fail
        refine hrd.mono ?_
        rintro e w5 ⟨rfl, o5⟩
        clear hrd o
        have hon := own_on o5
        rw [hoff] at hon
        simp only [Bool.not_true] at hon
        go_wp2_with fail
        refine hon.mono ?_
        rintro e w6 ⟨rfl, rfl⟩
        clear hon
        have hopc := own_ops o5
        rw [hop] at hopc
        go_wp2_with fail
        refine hopc.mono ?_
        rintro e w6 ⟨rfl, rfl⟩
        clear hopc
        have hsy := own_sync o5 hok (by omega)
        rw [sync_off hoff] at hsy
        go_wp2_with fail
        refine hsy.mono ?_
        rintro e w7 ⟨rfl, o7⟩
        clear hsy o5
        have hcr := own_crash o7 hok (by omega) hl rfl hmc hlm
        go_wp2_with fail
        refine hcr.mono ?_
        rintro e w8 ⟨rfl, o8⟩
        clear hcr o7
        have hon := own_on o8
        rw [show (!(D.crash l).off) = true from rfl] at hon
        go_wp2_with fail
        refine hon.mono ?_
        rintro e w9 ⟨rfl, rfl⟩
        clear hon
        have hsy := own_sync o8 (crash_ok hok l) (by omega)
        rw [sync_free rfl rfl rfl] at hsy
        go_wp2_with fail
        refine hsy.mono ?_
        rintro e w10 ⟨rfl, o10⟩
        clear hsy o8
        have hopc := own_ops o10
        dsimp only at hopc
        rw [show (D.crash l).ops = n from hop] at hopc
        go_wp2_with fail
        refine hopc.mono ?_
        rintro e w11 ⟨rfl, rfl⟩
        clear hopc
        go_wp2_with fail
        go_ret
        exact ⟨rfl, o10.all⟩
  · have hni : ops.tmod 31 = (n : Int) := by omega
    have hneg2 : ¬ (n : Int) < 0 := by omega
    clear hneg
    clear hn
    go_enter Try.func7, Try.ntmps7
    go_wp2_with fail
    refine (awake_any _).mono ?_
    rintro e w1 ⟨rfl, hB1⟩
    go_wp2_with fail
    refine (own_new 50 _).mono ?_
    rintro e w2 ⟨b, rfl, o0⟩
    have o0' : Own w w2 b (Dev.new 50) := by
      obtain ⟨h, q1, q2, q3, q4⟩ := o0
      exact ⟨h, q1, q2, fun k hk => by have := q3 k hk; have := hB1.size; omega, below_new hB1 q4⟩
    clear o0
    go_wp2_with fail
    refine (own_arm o0' n).mono ?_
    rintro e w3 ⟨rfl, o1⟩
    have hA0 : Armed n 0 { Dev.new 50 with armed := true, left := max (n : Int) 0 } := by
      have ok := Dev.new_ok 50 0
      exact ⟨⟨ok.size, ok.keys, ok.texts, ok.writes, ok.many, ok.ops, by dsimp only; omega, ok.count⟩, rfl, rfl, .inl ⟨by omega, rfl, rfl, by dsimp only; omega, rfl⟩⟩
    generalize ({ Dev.new 50 with armed := true, left := max (n : Int) 0 } : Dev) = D0 at o1 hA0
    clear o0' hB1
    go_wp2_with fail
    go_loopw [8] (fun y wr => ∃ (i : Nat) (D : Dev), y = .int .i64 (i : Nat) ∧ i ≤ 40 ∧ Armed n i D ∧ Own w wr b D) (fun y _ => 40 - (intOf y).toNat)
    case atStart => exact ⟨0, D0, rfl, by omega, hA0, o1⟩
    case round =>
      obtain ⟨i, D, rfl, hi40, hA, o⟩ := hrel
      by_cases hi : i < 40
      · have hii : (i : Int) < 40 := by omega
        obtain ⟨S, hS1, hSe, hS2⟩ := fill_nat (i + 1) (by omega) wr
        clear hSe
        have hst := hA.step hi hS1
        have hcv : ((i + 1 : Nat) : Int) = (i : Int) + 1 := by omega
        rw [hcv] at hS2
        by_cases hin : i < n
        · have hini : (i : Int) < n := by omega
          rw [if_pos hin] at hst
          go_wp2_with fail
          refine hS2.mono ?_
          rintro e w5 ⟨rfl, hB5⟩
          have hwr := own_write (o.below hB5) hA.1 (by omega) (i : Int) (by omega) S
          rw [hst.1] at hwr
          go_wp2_with fail
          refine hwr.mono ?_
          rintro e w6 ⟨rfl, o6⟩
          clear hwr hS2
          have HA : Hid (Armed n (i + 1) (D.write (i : Int) S).2) := hst.2
          clear hst hA
          go_wp2_with fail
          go_roundw
          case rel => exact ⟨i + 1, _, by go_num, by omega, HA.out, o6⟩
          case measure => simp [intOf]; omega
        · have hini : ¬ (i : Int) < n := by omega
          have hini2 : (n : Int) ≤ i := by omega
          rw [if_neg hin] at hst
          go_wp2_with fail
          refine hS2.mono ?_
          rintro e w5 ⟨rfl, hB5⟩
          have hwr := own_write (o.below hB5) hA.1 (by omega) (i : Int) (by omega) S
          rw [hst.1] at hwr
          go_wp2_with fail
          refine hwr.mono ?_
          rintro e w6 ⟨rfl, o6⟩
          clear hwr hS2
          have HA : Hid (Armed n (i + 1) (D.write (i : Int) S).2) := hst.2
          clear hst hA
          go_wp2_with fail
          go_roundw
          case rel => exact ⟨i + 1, _, by go_num, by omega, HA.out, o6⟩
          case measure => simp [intOf]; omega
      · have hii : ¬ (i : Int) < 40 := by omega
        obtain ⟨hok, hsz, hfl, hst⟩ := hA
        obtain ⟨hoff, hop⟩ : D.off = true ∧ D.ops = n := by
          rcases hst with q | q
          · omega
          · exact q.2
        clear hst
        have hrd := own_read o hok (by omega) 0 (by omega)
        rw [read_off hoff] at hrd
        go_wp2_with fail
        refine hrd.mono ?_
        rintro e w5 ⟨rfl, o5⟩
        clear hrd o
        have hon := own_on o5
        rw [hoff] at hon
        simp only [Bool.not_true] at hon
        go_wp2_with fail
        refine hon.mono ?_
        rintro e w6 ⟨rfl, rfl⟩
        clear hon
        have hopc := own_ops o5
        rw [hop] at hopc
        go_wp2_with fail
        refine hopc.mono ?_
        rintro e w6 ⟨rfl, rfl⟩
        clear hopc
        have hsy := own_sync o5 hok (by omega)
        rw [sync_off hoff] at hsy
        go_wp2_with fail
        refine hsy.mono ?_
        rintro e w7 ⟨rfl, o7⟩
        clear hsy o5
        have hcr := own_crash o7 hok (by omega) hl rfl hmc hlm
        go_wp2_with fail
        refine hcr.mono ?_
        rintro e w8 ⟨rfl, o8⟩
        clear hcr o7
        have hon := own_on o8
        rw [show (!(D.crash l).off) = true from rfl] at hon
        go_wp2_with fail
        refine hon.mono ?_
        rintro e w9 ⟨rfl, rfl⟩
        clear hon
        have hsy := own_sync o8 (crash_ok hok l) (by omega)
        rw [sync_free rfl rfl rfl] at hsy
        go_wp2_with fail
        refine hsy.mono ?_
        rintro e w10 ⟨rfl, o10⟩
        clear hsy o8
        have hopc := own_ops o10
        dsimp only at hopc
        rw [show (D.crash l).ops = n from hop] at hopc
        go_wp2_with fail
        refine hopc.mono ?_
        rintro e w11 ⟨rfl, rfl⟩
        clear hopc
        go_wp2_with fail
        go_ret
        exact ⟨rfl, o10.all⟩
end Go.Proofs.Ytonmjkalkkfhhaa
