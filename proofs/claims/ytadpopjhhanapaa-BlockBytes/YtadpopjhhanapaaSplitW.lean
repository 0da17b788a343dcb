/-
  What the calls of readHead and Split do.
-/
import Derived.Test.YtadpopjhhanapaaHeadW
namespace Go.Proofs.Ytadpopjhhanapaa
open Go Go.RowKit

/-- What the head says: where the payload begins, how many bytes it has, whether it is one. -/
def rd (l : List UInt8) : Nat × Nat × Bool := match l with
  | [] => (0, 0, false)
  | c :: r => if c.toNat < 128 then (0, 1, true) else
    if (c.toNat - 128) % 64 < 56 then (1, (c.toNat - 128) % 64, true) else
    if r.length < (c.toNat - 128) % 64 - 55 then (0, 0, false) else
    ((c.toNat - 128) % 64 - 54, uintV (r.take ((c.toNat - 128) % 64 - 55)), uintB (r.take ((c.toNat - 128) % 64 - 55)) && decide (56 ≤ uintV (r.take ((c.toNat - 128) % 64 - 55))))

theorem results_tmp4 {fn : Func} {t u v s : Tmp} (h : fn.results = #[.tmp t, .tmp u, .tmp v, .tmp s]) (tmps : Array Value) (P : Program) (w : World) :
    (results fn tmps).run P w = .ok (.tuple #[tmps.getD t undef, tmps.getD u undef, tmps.getD v undef, tmps.getD s undef]) w := by
  simp [results, h]

theorem exists_list (x : ByteArray) : ∃ l : List UInt8, x = ⟨l.toArray⟩ := ⟨x.data.toList, by simp⟩
theorem extract_str (x : ByteArray) (a b : Nat) : x.extract a b = ⟨((x.data.toList.drop a).take (b - a)).toArray⟩ := by
  obtain ⟨l, rfl⟩ := exists_list x
  rw [ByteArray.extract_mk]
theorem uintV_lt (l : List UInt8) : uintV l < 18446744073709551616 := by
  unfold uintV
  cases h : uint l with
  | none => simp
  | some n => obtain ⟨h1, _, h3⟩ := uint_some h; rw [Option.getD_some, ← h3]; exact val_lt64 l h1

set_option maxRecDepth 4000 in
theorem readHead_any (x : ByteArray) (w : World) (hx : x.size < 4611686018427387904) :
    Calls Try.prog 65 #[.string x] w fun e w' => e = .returned (.tuple #[.int .i64 (rd x.data.toList).1, .int .u64 (rd x.data.toList).2.1, .bool (rd x.data.toList).2.2]) ∧ w' = w := by
  by_cases h0 : x.size = 0
  · have h0i : (x.size : Int) = 0 := by omega
    have he : x.toList.isEmpty = true := isEmpty0 x h0
    have hr : rd x.data.toList = (0, 0, false) := by rw [show x.data.toList = [] from List.eq_nil_of_length_eq_zero (by rw [sizeB]; exact h0)]; rfl
    rw [hr]
    clear hr
    go_enter Try.func65, Try.ntmps65
    go_wp2_with fail
    go_ret3
    exact ⟨rfl, rfl⟩
  · have he : x.toList.isEmpty = false := notEmpty x h0
    have hp : 0 < x.size := by omega
    have hpi : (0 : Int) < x.size := by omega
    obtain ⟨c, r, hl⟩ : ∃ c r, x.data.toList = c :: r := by
      cases hl : x.data.toList with
      | nil => exact absurd (by rw [← sizeB, hl]; rfl) h0
      | cons c r => exact ⟨c, r, rfl⟩
    have hc : x[0] = c := by rw [getB x 0 hp]; simp [hl]
    have hrs : r.length + 1 = x.size := by rw [← sizeB, hl]; rfl
    have hlt := c.toNat_lt
    rw [hl]
    by_cases h1 : c.toNat < 128
    · have h1i : (c.toNat : Int) < 128 := by omega
      have hr : rd (c :: r) = (0, 1, true) := by unfold rd; simp only [if_pos h1]
      rw [hr]
      clear hr
      go_enter Try.func65, Try.ntmps65
      go_wp2_with fail
      go_ret3
      exact ⟨rfl, rfl⟩
    · have h1i : ¬ (c.toNat : Int) < 128 := by omega
      obtain ⟨k, hk⟩ : ∃ k, k = (c.toNat - 128) % 64 := ⟨_, rfl⟩
      have hki : ((c.toNat : Int) - 128) % 64 = (k : Int) := by omega
      have hk64 : k < 64 := by omega
      by_cases h2 : k < 56
      · have h2i : (k : Int) < 56 := by omega
        have hr : rd (c :: r) = (1, k, true) := by unfold rd; simp only [if_neg h1, ← hk, if_pos h2]
        clear hk
        rw [hr]
        clear hr
        go_enter Try.func65, Try.ntmps65
        go_wp2_with fail
        go_ret3
        exact ⟨rfl, rfl⟩
      · have h2i : ¬ (k : Int) < 56 := by omega
        by_cases h3 : r.length < k - 55
        · have h3i : (x.size : Int) < 1 + k - 55 := by omega
          have hr : rd (c :: r) = (0, 0, false) := by unfold rd; simp only [if_neg h1, ← hk, if_neg h2, if_pos h3]
          clear hk
          rw [hr]
          clear hr
          go_enter Try.func65, Try.ntmps65
          go_wp2_with fail
          go_ret3
          exact ⟨rfl, rfl⟩
        · have h3i : ¬ (x.size : Int) < 1 + k - 55 := by omega
          obtain ⟨m, hm⟩ : ∃ m, m = k - 55 := ⟨_, rfl⟩
          have h3' : ¬ r.length < m := by omega
          have hr : rd (c :: r) = (m + 1, uintV (r.take m), uintB (r.take m) && decide (56 ≤ uintV (r.take m))) := by
            unfold rd
            simp only [if_neg h1, ← hk, if_neg h2, ← hm, if_neg h3', show k - 54 = m + 1 by omega]
          have hex : x.extract 1 (m + 1) = ⟨(r.take m).toArray⟩ := by rw [extract_str, hl]; simp
          have hmi : 1 + (k : Int) - 55 = ((m + 1 : Nat) : Int) := by omega
          have hms : ((m + 1 : Nat) : Int) ≤ x.size := by omega
          have hm0 : (1 : Int) ≤ ((m + 1 : Nat) : Int) := by omega
          obtain ⟨M, hM⟩ : ∃ M, M = m + 1 := ⟨_, rfl⟩
          have hus := uintV_lt (r.take m)
          have hml : (r.take m).length ≤ 8 := by rw [List.length_take]; omega
          obtain ⟨U, hU⟩ : ∃ U, U = uintV (r.take m) := ⟨_, rfl⟩
          obtain ⟨V, hV⟩ : ∃ V, V = uintB (r.take m) := ⟨_, rfl⟩
          obtain ⟨T, hT⟩ : ∃ T, T = r.take m := ⟨_, rfl⟩
          rw [← hU, ← hV] at hr
          rw [← hU] at hus
          rw [← hT] at hex hml hU hV
          rw [← hM] at hmi hms hm0 hex hr
          have HU : Hid (U = uintV T) := hU
          have HV : Hid (V = uintB T) := hV
          clear hk hT hU hV hm hM h3 h3'
          rw [hr]
          clear hr
          by_cases hV : V = true
          · subst hV
            by_cases hU : 56 ≤ U
            · have hUi : (56 : Int) ≤ U := by omega
              rw [decide_eq_true hU]
              go_enter Try.func65, Try.ntmps65
              go_wp2_with (first
                | (go_at_call 46; refine (uint_any ⟨T.toArray⟩ _ (by show T.toArray.size ≤ _; simp; omega)).mono ?_; rintro e w1 ⟨rfl, rfl⟩; rw [show (⟨T.toArray⟩ : ByteArray).data.toList = T from rfl, ← HU.out, ← HV.out])
                | fail)
              go_ret3
              exact ⟨rfl, rfl⟩
            · have hUi : ¬ (56 : Int) ≤ U := by omega
              rw [decide_eq_false hU]
              go_enter Try.func65, Try.ntmps65
              go_wp2_with (first
                | (go_at_call 46; refine (uint_any ⟨T.toArray⟩ _ (by show T.toArray.size ≤ _; simp; omega)).mono ?_; rintro e w1 ⟨rfl, rfl⟩; rw [show (⟨T.toArray⟩ : ByteArray).data.toList = T from rfl, ← HU.out, ← HV.out])
                | fail)
              go_ret3
              exact ⟨by rw [show decide ((56 : Int) ≤ (U : Int)) = false from decide_eq_false (by omega)]; rfl, rfl⟩
          · have hV : V = false := by simpa using hV
            subst hV
            go_enter Try.func65, Try.ntmps65
            go_wp2_with (first
              | (go_at_call 46; refine (uint_any ⟨T.toArray⟩ _ (by show T.toArray.size ≤ _; simp; omega)).mono ?_; rintro e w1 ⟨rfl, rfl⟩; rw [show (⟨T.toArray⟩ : ByteArray).data.toList = T from rfl, ← HU.out, ← HV.out])
              | fail)
            go_ret3
            exact ⟨rfl, rfl⟩

/-- The first thing of bytes: its payload, whether it is a list, what stands behind it. -/
def split (l : List UInt8) : Option (List UInt8 × Bool × List UInt8) :=
  if (rd l).2.2 = false ∨ l.length < (rd l).1 + (rd l).2.1 then none else
  if 0 < (rd l).1 ∧ (l.headD 0).toNat < 192 ∧ alone ((l.drop (rd l).1).take (rd l).2.1) = true then none else
  some ((l.drop (rd l).1).take (rd l).2.1, decide (192 ≤ (l.headD 0).toNat), l.drop ((rd l).1 + (rd l).2.1))
def splitV : Option (List UInt8 × Bool × List UInt8) → Value
  | none => .tuple #[.string ⟨#[]⟩, .bool false, .string ⟨#[]⟩, .int .i64 10]
  | some (p, b, r) => .tuple #[.string ⟨p.toArray⟩, .bool b, .string ⟨r.toArray⟩, .int .i64 0]

theorem rd_bound (l : List UInt8) : (rd l).2.2 = true → (rd l).1 ≤ l.length := by
  unfold rd
  split
  · simp
  · split
    · simp
    · split
      · simp
      · split
        · simp
        · intro _; simp only [List.length_cons]; omega
theorem rd_lt (l : List UInt8) : (rd l).2.1 < 18446744073709551616 ∧ (rd l).1 ≤ 9 := by
  cases l with
  | nil => exact ⟨(by omega : (0 : Nat) < 18446744073709551616), (by omega : (0 : Nat) ≤ 9)⟩
  | cons c r =>
    unfold rd
    dsimp only
    by_cases h1 : c.toNat < 128
    · rw [if_pos h1]; dsimp only; omega
    · rw [if_neg h1]
      by_cases h2 : (c.toNat - 128) % 64 < 56
      · rw [if_pos h2]; dsimp only; omega
      · rw [if_neg h2]
        by_cases h3 : r.length < (c.toNat - 128) % 64 - 55
        · rw [if_pos h3]; dsimp only; omega
        · have hu := uintV_lt (r.take ((c.toNat - 128) % 64 - 55))
          rw [if_neg h3]; dsimp only; exact ⟨hu, by omega⟩
theorem rd_zero (l : List UInt8) : (rd l).2.2 = true → (rd l).1 = 0 → (rd l).2.1 = 1 ∧ (l.headD 0).toNat < 128 := by
  cases l with
  | nil => intro h; cases h
  | cons c r =>
    unfold rd
    dsimp only [List.headD_cons]
    by_cases h1 : c.toNat < 128
    · rw [if_pos h1]; exact fun _ _ => ⟨rfl, h1⟩
    · rw [if_neg h1]
      by_cases h2 : (c.toNat - 128) % 64 < 56
      · rw [if_pos h2]; intro _ h; cases h
      · rw [if_neg h2]
        by_cases h3 : r.length < (c.toNat - 128) % 64 - 55
        · rw [if_pos h3]; intro h; cases h
        · rw [if_neg h3]; dsimp only; intro _ h; omega
theorem split_close (x : ByteArray) (f n : Nat) (T R : List UInt8) (c : UInt8) (b : Bool) (h1 : x.extract f (f + n) = ⟨T.toArray⟩) (h2 : x.extract (f + n) x.size = ⟨R.toArray⟩) (hb : b = decide ((192 : Int) ≤ c.toNat)) :
    Ending.returned (.tuple #[.string (x.extract f (f + n)), .bool (decide ((192 : Int) ≤ c.toNat)), .string (x.extract ((f : Int) + n).toNat x.size), .int .i64 0]) = .returned (splitV (some (T, b, R))) := by
  rw [show ((f : Int) + n).toNat = f + n by omega, h1, h2, ← hb]; rfl
theorem split_close2 (x : ByteArray) (f n : Nat) (T R : List UInt8) (_ : UInt8) (b : Bool) (h1 : x.extract f (f + n) = ⟨T.toArray⟩) (h2 : x.extract (f + n) x.size = ⟨R.toArray⟩) :
    Ending.returned (.tuple #[.string (x.extract f (f + n)), .bool b, .string (x.extract ((f : Int) + n).toNat x.size), .int .i64 0]) = .returned (splitV (some (T, b, R))) := by
  rw [show ((f : Int) + n).toNat = f + n by omega, h1, h2]; rfl
theorem below_drewN (B : Nat) (w : World) (n : Nat) : Below B w (w.drewN n) := ⟨rfl, rfl, rfl, Nat.le_refl _, fun _ _ => rfl⟩
theorem rd_nil : rd [] = (0, 0, false) := rfl

set_option maxRecDepth 8000 in
set_option maxHeartbeats 400000 in
theorem split_any (x : ByteArray) (w : World) (hx : x.size < 4611686018427387904) :
    Calls Try.prog 42 #[.string x] w fun e w' => e = .returned (splitV (split x.data.toList)) ∧ Below w.heap.size w w' := by
  obtain ⟨f, hf⟩ : ∃ f, f = (rd x.data.toList).1 := ⟨_, rfl⟩
  obtain ⟨n, hn⟩ : ∃ n, n = (rd x.data.toList).2.1 := ⟨_, rfl⟩
  obtain ⟨ok, hok⟩ : ∃ ok, ok = (rd x.data.toList).2.2 := ⟨_, rfl⟩
  have hb := rd_bound x.data.toList
  obtain ⟨hnl, hf9⟩ := rd_lt x.data.toList
  have HR : Hid (f = (rd x.data.toList).1 ∧ n = (rd x.data.toList).2.1 ∧ ok = (rd x.data.toList).2.2) := ⟨hf, hn, hok⟩
  have hs : split x.data.toList = if ok = false ∨ x.size < f + n then none else
      if 0 < f ∧ (x.data.toList.headD 0).toNat < 192 ∧ alone ((x.data.toList.drop f).take n) = true then none else
      some ((x.data.toList.drop f).take n, decide (192 ≤ (x.data.toList.headD 0).toNat), x.data.toList.drop (f + n)) := by
    rw [hf, hn, hok, ← sizeB]; rfl
  rw [← hf, ← hok, sizeB] at hb
  rw [← hn] at hnl
  rw [← hf] at hf9
  rw [hs]
  clear hf hn hs hok
  by_cases h1 : ok = true
  · subst h1
    have hb := hb rfl
    by_cases h2 : x.size < f + n
    · rw [if_pos (.inr h2)]
      have h2i : ((x.size : Int) - f) < n := by omega
      have hb0 : (0 : Int) ≤ (x.size : Int) - f := by omega
      go_enter Try.func42, Try.ntmps42
      go_wp2_with (first
        | (go_at_call 65; refine (readHead_any x _ hx).mono ?_; rintro e w1 ⟨rfl, rfl⟩; rw [← HR.out.1, ← HR.out.2.1, ← HR.out.2.2])
        | fail)
      exact bodyPost_ret (results_tmp4 rfl _ _ _) rfl ⟨rfl, Below.refl _ _⟩
    · rw [if_neg (by simp; omega)]
      have hp : 0 < x.size := by
        rcases Nat.eq_zero_or_pos x.size with q | q
        · have h3 := HR.out.2.2
          rw [show x.data.toList = [] from List.eq_nil_of_length_eq_zero (by rw [sizeB]; exact q)] at h3
          cases h3
        · exact q
      have hpi : (0 : Int) < x.size := by omega
      obtain ⟨c, hc⟩ : ∃ c, c = x.data.toList.headD 0 := ⟨_, rfl⟩
      have hx0 : x[0] = c := by
        rw [hc, getB x 0 hp, List.headD_eq_head?_getD, List.head?_eq_getElem?, List.getElem?_eq_getElem (by exact hp)]; rfl
      obtain ⟨T, hT⟩ : ∃ T, T = (x.data.toList.drop f).take n := ⟨_, rfl⟩
      have hTl : T.length = n := by rw [hT, List.length_take, List.length_drop, sizeB]; omega
      have hex : x.extract f (f + n) = ⟨T.toArray⟩ := by rw [extract_str, hT, Nat.add_sub_cancel_left]
      have hey : x.extract (f + n) x.size = ⟨(x.data.toList.drop (f + n)).toArray⟩ := by
        rw [extract_str, List.take_of_length_le (by rw [List.length_drop, sizeB]; omega)]
      have hTT : (x.extract f (f + n)).data.toList = T := by rw [hex]
      have hlt := c.toNat_lt
      obtain ⟨R, hR⟩ : ∃ R, R = x.data.toList.drop (f + n) := ⟨_, rfl⟩
      rw [← hc, ← hT, ← hR]
      rw [← hR] at hey
      have HC : Hid (c = x.data.toList.headD 0) := hc
      clear hT hR hc
      have h2i : ¬ ((x.size : Int) - f) < n := by omega
      have hb0 : (0 : Int) ≤ (x.size : Int) - f := by omega
      have hn63 : (n : Int) ≤ 4611686018427387904 := by omega
      have hfn : (f : Int) + n ≤ x.size := by omega
      have hfn0 : (0 : Int) ≤ (f : Int) + n := by omega
      have hfa : (0 : Int) ≤ (f : Int) + n ∧ (f : Int) + n ≤ x.size := ⟨hfn0, hfn⟩
      have hTs : (x.extract f (f + n)).size ≤ 9223372036854775807 := by rw [hex]; show T.toArray.size ≤ _; simp; omega
      have HE : Hid (x.extract f (f + n) = ⟨T.toArray⟩ ∧ x.extract (f + n) x.size = ⟨R.toArray⟩ ∧ (x.extract f (f + n)).data.toList = T ∧ (x.extract f (f + n)).size ≤ 9223372036854775807) := ⟨hex, hey, hTT, hTs⟩
      clear hex hey hTT hTs
      by_cases hf0 : 0 < f
      · have hf0i : (0 : Int) < f := by omega
        by_cases hc : c.toNat < 192
        · have hci : (c.toNat : Int) < 192 := by omega
          by_cases hal : alone T = true
          · rw [if_pos ⟨hf0, hc, hal⟩]
            go_enter Try.func42, Try.ntmps42
            go_wp2_with (first
              | (go_at_call 65; refine (readHead_any x _ hx).mono ?_; rintro e w1 ⟨rfl, rfl⟩; rw [← HR.out.1, ← HR.out.2.1, ← HR.out.2.2])
              | (go_at_call 66; refine (stands_any (x.extract f (f + n)) _ HE.out.2.2.2).mono ?_; rintro e w1 ⟨rfl, rfl⟩; rw [HE.out.2.2.1, hal])
              | fail)
            exact bodyPost_ret (results_tmp4 rfl _ _ _) rfl ⟨rfl, Below.refl _ _⟩
          · have hal : alone T = false := by simpa using hal
            rw [if_neg (by simp [hal]), decide_eq_false (by omega)]
            go_enter Try.func42, Try.ntmps42
            go_wp2_with (first
              | (go_at_call 65; refine (readHead_any x _ hx).mono ?_; rintro e w1 ⟨rfl, rfl⟩; rw [← HR.out.1, ← HR.out.2.1, ← HR.out.2.2])
              | (go_at_call 66; refine (stands_any (x.extract f (f + n)) _ HE.out.2.2.2).mono ?_; rintro e w1 ⟨rfl, rfl⟩; rw [HE.out.2.2.1, hal])
              | fail)
            go_quiet (fail)
            go_wp2
            refine bodyPost_ret (results_tmp4 (t := 2) (u := 3) (v := 4) (s := 5) rfl _ _ _) rfl ⟨?_, below_drewN _ _ _⟩; first | exact split_close x f n T R c false HE.out.1 HE.out.2.1 (decide_eq_false (by omega)).symm | exact split_close2 x f n T R c false HE.out.1 HE.out.2.1
        · have hci : ¬ (c.toNat : Int) < 192 := by omega
          rw [if_neg (by simp [hc]), decide_eq_true (by omega)]
          go_enter Try.func42, Try.ntmps42
          go_wp2_with (first
            | (go_at_call 65; refine (readHead_any x _ hx).mono ?_; rintro e w1 ⟨rfl, rfl⟩; rw [← HR.out.1, ← HR.out.2.1, ← HR.out.2.2])
            | fail)
          go_quiet (fail)
          go_wp2
          refine bodyPost_ret (results_tmp4 (t := 2) (u := 3) (v := 4) (s := 5) rfl _ _ _) rfl ⟨?_, below_drewN _ _ _⟩; first | exact split_close x f n T R c true HE.out.1 HE.out.2.1 (decide_eq_true (by omega)).symm | exact split_close2 x f n T R c true HE.out.1 HE.out.2.1
      · have hf00 : f = 0 := by omega
        subst hf00
        obtain ⟨hn1, hc1⟩ := rd_zero x.data.toList HR.out.2.2.symm HR.out.1.symm
        rw [← HR.out.2.1] at hn1
        subst hn1
        rw [if_neg (by simp), decide_eq_false (by rw [HC.out]; omega)]
        have hci : (c.toNat : Int) < 128 := by rw [HC.out]; omega
        clear hc1
        go_enter Try.func42, Try.ntmps42
        go_wp2_with (first
          | (go_at_call 65; refine (readHead_any x _ hx).mono ?_; rintro e w1 ⟨rfl, rfl⟩; rw [← HR.out.1, ← HR.out.2.1, ← HR.out.2.2])
          | fail)
        go_quiet (fail)
        go_wp2
        refine bodyPost_ret (results_tmp4 (t := 2) (u := 3) (v := 4) (s := 5) rfl _ _ _) rfl ⟨?_, below_drewN _ _ _⟩; first | exact split_close x 0 1 T R c false HE.out.1 HE.out.2.1 (decide_eq_false (by omega)).symm | exact split_close2 x 0 1 T R c false HE.out.1 HE.out.2.1
  · have h1 : ok = false := by simpa using h1
    subst h1
    rw [if_pos (.inl rfl)]
    go_enter Try.func42, Try.ntmps42
    go_wp2_with (first
      | (go_at_call 65; refine (readHead_any x _ hx).mono ?_; rintro e w1 ⟨rfl, rfl⟩; rw [← HR.out.1, ← HR.out.2.1, ← HR.out.2.2])
      | fail)
    exact bodyPost_ret (results_tmp4 rfl _ _ _) rfl ⟨rfl, Below.refl _ _⟩
end Go.Proofs.Ytadpopjhhanapaa
