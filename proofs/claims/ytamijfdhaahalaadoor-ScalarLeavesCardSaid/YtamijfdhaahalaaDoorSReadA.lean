/-
  What the calls of Read do.
-/
import Derived.Test.YtamijfdhaahalaaDoorSReadW
import Derived.Test.YtamijfdhaahalaaDoorSRecW
namespace Go.Proofs.YtamijfdhaahalaaDoor
open Go Go.RowKit

/-- The account that four texts are. -/
def acctOf (f : Nat → ByteArray) : Option (Nat × ByteArray × ByteArray × Nat) := match uint (f 0).data.toList, uint (f 3).data.toList with
  | some n, some k => if okA (f 1).data.toList (f 2).data.toList k = true then some (n, f 1, f 2, k) else none
  | _, _ => none
def bytesOf (l : List UInt8) : ByteArray := ⟨l.toArray⟩
/-- The account that bytes are the record of, as far as it is read. -/
def readA (l : List UInt8) : Option (Nat × ByteArray × ByteArray × Nat) := match quad l with
  | some ps => acctOf fun j => bytesOf (ps.getD j [])
  | none => none
def readV : Option (Nat × ByteArray × ByteArray × Nat) → Value
  | some (n, b, c, k) => .tuple #[.agg (acct n b c k), .int .i64 0]
  | none => .tuple #[.agg (acct 0 ⟨#[]⟩ ⟨#[]⟩ 0), .int .i64 10]
theorem pre4_get (f : Nat → ByteArray) (j : Nat) (h : j < 4) : bytesOf ((pre4 f 4).getD j []) = f j := by
  match j, h with
  | 0, _ => rfl
  | 1, _ => rfl
  | 2, _ => rfl
  | 3, _ => rfl
theorem readA_some {l : List UInt8} {f : Nat → ByteArray} (h : quad l = some (pre4 f 4)) : readA l = acctOf f := by
  unfold readA
  rw [h]
  unfold acctOf
  simp only [pre4_get f 0 (by omega), pre4_get f 1 (by omega), pre4_get f 2 (by omega), pre4_get f 3 (by omega)]
theorem readA_none {l : List UInt8} (h : quad l = none) : readA l = none := by unfold readA; rw [h]
theorem texts_len : ∀ (k : Nat) (r : List UInt8) (q : List (List UInt8) × List UInt8), texts k r = some q → ∀ p ∈ q.1, p.length ≤ r.length
  | 0, r, q, h, p, hp => by
    obtain rfl := Option.some.inj h
    cases hp
  | k + 1, r, q, h, p, hp => by
    rw [texts] at h
    split at h
    · next p2 t hs =>
      obtain ⟨q2, h2, rfl⟩ := Option.map_eq_some_iff.1 h
      have hl := split_len hs
      rcases List.mem_cons.1 hp with rfl | hp2
      · omega
      · have := texts_len k t q2 h2 p hp2
        omega
    · cases h
theorem quad_len {l : List UInt8} {ps : List (List UInt8)} (h : quad l = some ps) : ∀ p ∈ ps, p.length ≤ l.length := by
  unfold quad at h
  split at h
  · next row hs =>
    split at h
    · next ps2 ht =>
      obtain rfl := Option.some.inj h
      intro p hp
      have := texts_len 4 row _ ht p hp
      have := split_len hs
      omega
    · cases h
  · cases h
theorem quad_size {l : List UInt8} {f : Nat → ByteArray} (h : quad l = some (pre4 f 4)) (j : Nat) (hj : j < 4) : (f j).size ≤ l.length := by
  rw [← sizeB]
  exact quad_len h _ (List.mem_map.2 ⟨j, List.mem_range.2 hj, rfl⟩)
theorem uintV_eq {l : List UInt8} {n : Nat} (h : uint l = some n) : uintV l = n ∧ uintB l = true := by unfold uintV uintB; rw [h]; exact ⟨rfl, rfl⟩
theorem uintB_none {l : List UInt8} (h : uint l = none) : uintB l = false := by unfold uintB; rw [h]; rfl
theorem acct_one (n : Nat) (b c : ByteArray) (z : Int) : (acct n b c z).all (·.oneCell') = true := by simp [acct, Value.oneCell']
theorem infoAcct : (Tryd.prog.info? 33).map (·.size) = some 4 := by kernel_rfl

set_option maxRecDepth 8000 in
set_option maxHeartbeats 4000000 in
theorem sread_any (x : ByteArray) (w : World) (hx : x.size < 4611686018427387904) :
    Calls Tryd.prog 24 #[.string x] w fun e w' => e = .returned (readV (readA x.data.toList)) ∧ Below w.heap.size w w' := by
  obtain ⟨V, hV⟩ : ∃ V, readV (readA x.data.toList) = V := ⟨_, rfl⟩
  rw [hV]
  have HV : Hid (readV (readA x.data.toList) = V) := hV
  clear hV
  have hz0 : (#[.string ⟨#[]⟩, .string ⟨#[]⟩, .string ⟨#[]⟩, .string ⟨#[]⟩] : Array Value) = partsA (fun _ => ⟨#[]⟩) := rfl
  have hz1 : (#[.int .u64 0, .string ⟨#[]⟩, .string ⟨#[]⟩, .int .i64 0] : Array Value) = acct 0 ⟨#[]⟩ ⟨#[]⟩ 0 := rfl
  obtain ⟨g, hg⟩ : ∃ g, g = w.heap.size := ⟨_, rfl⟩
  have hH1 := Holds.new w 33 (acct 0 ⟨#[]⟩ ⟨#[]⟩ 0)
  rw [← hg] at hH1
  have HH : Hid (Holds _ g 33 _) := hH1
  have HG : Hid (g = w.heap.size) := hg
  have hgl : w.heap.size ≤ g := by omega
  clear hH1 hg
  go_enter Tryd.func24, Tryd.ntmps24
  go_wp2_with fail
  rw [← HG.out]
  refine (ssplit_any x _ hx).mono ?_
  rintro e w1 ⟨⟨f, rfl, hf⟩, hB1⟩
  have h1 := below_holds hB1 HH.out
  have HB1 : Hid (Below w.heap.size w w1) := alloc_below hB1
  have hg1 : g < w1.heap.size := h1.lt
  clear hB1
  have hn := Holds.new w1 57 (partsA fun _ => ⟨#[]⟩)
  have hlt1 : w1.heap.size < (w1.alloc (.cells (partsA fun _ => ⟨#[]⟩) 57)).heap.size := by rw [World.size_alloc]; omega
  have HBa : Hid (Below w1.heap.size w1 (w1.alloc (.cells (partsA fun _ => ⟨#[]⟩) 57))) := (Below.refl _ _).alloc (Nat.le_refl _) _
  have h1a := h1.alloc (.cells (partsA fun _ => ⟨#[]⟩) 57)
  cases hqd : quad x.data.toList with
  | none =>
    have HR : Hid (readA x.data.toList = none) := readA_none hqd
    clear hf
    simp only [Option.isSome_none]
    go_wp2_with (first
      | (refine wpList_storeH rfl 57 _ _ rfl w1.heap.size (partsA f) rfl rfl 57 _ hn infoFour rfl (partsA_one _) ?_
         intro w2 h2 o2 z2
         have h12 := o2.holds h1a (by omega))
      | (refine wpList_storeH rfl 33 _ _ rfl g (acct 0 ⟨#[]⟩ ⟨#[]⟩ 0) rfl rfl 33 _ h12 infoAcct rfl (acct_one _ _ _ _) ?_
         intro w3 h3 o3 z3)
      | fail)
    refine bodyPost_ret (results_two (p := 2) (u := 3) rfl _ w3 g 33 _ _ rfl h3 Tryd.underlying33 rfl infoAcct) rfl ⟨?_, ?_⟩
    · rw [← HV.out, HR.out]; rfl
    · have b1 := HB1.out.trans (HBa.out.mono HB1.out.size)
      exact Only.fresh (Only.fresh b1 o2 (by omega)) o3 hgl
  | some ps =>
    have hps := hf ps hqd
    rw [hps] at hqd
    have HR : Hid (readA x.data.toList = acctOf f) := readA_some hqd
    have s0 := quad_size hqd 0 (by omega)
    have s3 := quad_size hqd 3 (by omega)
    rw [sizeB] at s0 s3
    clear hf hps
    simp only [Option.isSome_some]
    go_wp2_with (first
      | (refine wpList_storeH rfl 57 _ _ rfl w1.heap.size (partsA f) rfl rfl 57 _ hn infoFour rfl (partsA_one _) ?_
         intro w2 h2 o2 z2
         have h12 := o2.holds h1a (by omega)
         have c0 : w2.cell? ⟨w1.heap.size, 0, none⟩ = some (.string (f 0)) := h2.cell 0
         have c1 : w2.cell? ⟨w1.heap.size, 1, none⟩ = some (.string (f 1)) := h2.cell 1
         have c2 : w2.cell? ⟨w1.heap.size, 2, none⟩ = some (.string (f 2)) := h2.cell 2
         have c3 : w2.cell? ⟨w1.heap.size, 3, none⟩ = some (.string (f 3)) := h2.cell 3
         have b1 := HB1.out.trans (HBa.out.mono HB1.out.size)
         have HB2 : Hid (Below w.heap.size w w2) := Only.fresh b1 o2 (by omega)
         clear b1 o2 h2 hn h1a h1 HBa HB1 z2 hlt1 hg1)
      | fail)
    have H12 : Hid (Holds w2 g 33 (acct 0 ⟨#[]⟩ ⟨#[]⟩ 0)) := h12
    clear h12
    refine (uint_any (f 0) _ (by omega)).mono ?_
    rintro e w3 ⟨rfl, rfl⟩
    go_wp2_with fail
    refine (uint_any (f 3) _ (by omega)).mono ?_
    rintro e w4 ⟨rfl, rfl⟩
    cases hu0 : uint (f 0).data.toList with
    | none =>
      have HN : Hid (acctOf f = none) := by unfold Hid acctOf; rw [hu0]
      rw [uintB_none hu0]
      generalize uintV (f 0).data.toList = v0
      generalize uintV (f 3).data.toList = v3
      generalize uintB (f 3).data.toList = b3
      go_wp2_with (first
        | (refine wpList_storeH rfl 33 _ _ rfl g (acct 0 ⟨#[]⟩ ⟨#[]⟩ 0) rfl rfl 33 _ H12.out infoAcct rfl (acct_one _ _ _ _) ?_
           intro w3 h3 o3 z3)
        | fail)
      refine bodyPost_ret (results_two (p := 2) (u := 3) rfl _ w3 g 33 _ _ rfl h3 Tryd.underlying33 rfl infoAcct) rfl ⟨?_, ?_⟩
      · rw [← HV.out, HR.out, HN.out]; rfl
      · exact Only.fresh HB2.out o3 hgl
    | some n =>
      rw [(uintV_eq hu0).1, (uintV_eq hu0).2]
      cases hu3 : uint (f 3).data.toList with
      | none =>
        have HN : Hid (acctOf f = none) := by unfold Hid acctOf; rw [hu0, hu3]
        rw [uintB_none hu3]
        generalize uintV (f 3).data.toList = v3
        go_wp2_with (first
          | (refine wpList_storeH rfl 33 _ _ rfl g (acct 0 ⟨#[]⟩ ⟨#[]⟩ 0) rfl rfl 33 _ H12.out infoAcct rfl (acct_one _ _ _ _) ?_
             intro w3 h3 o3 z3)
          | fail)
        refine bodyPost_ret (results_two (p := 2) (u := 3) rfl _ w3 g 33 _ _ rfl h3 Tryd.underlying33 rfl infoAcct) rfl ⟨?_, ?_⟩
        · rw [← HV.out, HR.out, HN.out]; rfl
        · exact Only.fresh HB2.out o3 hgl
      | some k =>
        rw [(uintV_eq hu3).1, (uintV_eq hu3).2]
        by_cases hk : k ≤ 2147483647
        · have hki : (k : Int) ≤ 2147483647 := by omega
          have hk0 : (0 : Int) ≤ k := by omega
          have HA : Hid (acctOf f = if okA (f 1).data.toList (f 2).data.toList k = true then some (n, f 1, f 2, k) else none) := by unfold Hid acctOf; rw [hu0, hu3]
          have HNW : Hid (∀ w : World, Holds (w.alloc (.cells #[.int .u64 0, .string ⟨#[]⟩, .string ⟨#[]⟩, .int .i64 0] 33)) w.heap.size 33 (acct 0 ⟨#[]⟩ ⟨#[]⟩ 0)) := fun w => Holds.new w _ _
          have HAL : Hid (Below w4.heap.size w4 (w4.alloc (.cells #[.int .u64 0, .string ⟨#[]⟩, .string ⟨#[]⟩, .int .i64 0] 33))) := (Below.refl _ _).alloc (Nat.le_refl _) _
          have H14 := H12.out.alloc (.cells #[.int .u64 0, .string ⟨#[]⟩, .string ⟨#[]⟩, .int .i64 0] 33)
          have hg4 : g < w4.heap.size := H12.out.lt
          clear hz1
          go_wp2_with (first
            | (refine wpList_storeH rfl 33 _ _ rfl w4.heap.size (acct n (f 1) (f 2) k) rfl rfl 33 _ (HNW.out w4) infoAcct rfl (acct_one _ _ _ _) ?_
               intro w5 h5 o5 z5
               have H5 : Hid (Holds w5 w4.heap.size 33 (acct n (f 1) (f 2) k)) := h5
               have b4 := HB2.out.trans (HAL.out.mono HB2.out.size)
               have HB5 : Hid (Below w.heap.size w w5) := Only.fresh b4 o5 (Nat.le_of_lt (Nat.lt_of_le_of_lt hgl hg4))
               have H15 : Hid (Holds w5 g 33 (acct 0 ⟨#[]⟩ ⟨#[]⟩ 0)) := o5.holds H14 (by omega)
               clear h5 o5 z5 b4 H14 c0 c1 c2 c3)
            | (refine wpList_loadH rfl 33 _ rfl w4.heap.size rfl 33 _ _ H5.out Tryd.underlying33 rfl infoAcct ?_)
            | fail)
          refine (check_any n (f 1) (f 2) k _).mono ?_
          rintro e w6 ⟨rfl, hB6⟩
          have H6 : Hid (Holds w6 w4.heap.size 33 (acct n (f 1) (f 2) k)) := below_holds hB6 H5.out
          have HB6 : Hid (Below w.heap.size w w6) := HB5.out.trans (hB6.mono HB5.out.size)
          have H16 := below_holds hB6 H15.out
          clear H15 hB6 H5
          have H15 : Hid (Holds w6 g 33 (acct 0 ⟨#[]⟩ ⟨#[]⟩ 0)) := H16
          clear H16
          unfold chkE
          cases hok : okA (f 1).data.toList (f 2).data.toList k with
          | false =>
            have HOK : Hid (okA (f 1).data.toList (f 2).data.toList k = false) := hok
            have hz1 : (#[.int .u64 0, .string ⟨#[]⟩, .string ⟨#[]⟩, .int .i64 0] : Array Value) = acct 0 ⟨#[]⟩ ⟨#[]⟩ 0 := rfl
            clear hok
            simp only [Bool.false_eq_true, if_false]
            go_wp2_with (first
              | (refine wpList_storeH rfl 33 _ _ rfl g (acct 0 ⟨#[]⟩ ⟨#[]⟩ 0) rfl rfl 33 _ H15.out infoAcct rfl (acct_one _ _ _ _) ?_
                 intro w7 h7 o7 z7)
              | fail)
            refine bodyPost_ret (results_two (p := 2) (u := 3) rfl _ w7 g 33 _ _ rfl h7 Tryd.underlying33 rfl infoAcct) rfl ⟨?_, ?_⟩
            · rw [← HV.out, HR.out, HA.out, HOK.out]; rfl
            · exact Only.fresh HB6.out o7 hgl
          | true =>
            have HOK : Hid (okA (f 1).data.toList (f 2).data.toList k = true) := hok
            clear hok
            simp only [if_true]
            go_wp2_with (first
              | (refine wpList_storeH rfl 33 _ _ rfl g (acct n (f 1) (f 2) k) rfl rfl 33 _ H15.out infoAcct rfl (acct_one _ _ _ _) ?_
                 intro w7 h7 o7 z7)
              | (refine wpList_loadH rfl 33 _ rfl w4.heap.size rfl 33 _ _ H6.out Tryd.underlying33 rfl infoAcct ?_)
              | fail)
            refine bodyPost_ret (results_two (p := 2) (u := 3) rfl _ w7 g 33 _ _ rfl h7 Tryd.underlying33 rfl infoAcct) rfl ⟨?_, ?_⟩
            · rw [← HV.out, HR.out, HA.out, HOK.out]; rfl
            · exact Only.fresh HB6.out o7 hgl
        · have hki : ¬ (k : Int) ≤ 2147483647 := by omega
          have HN : Hid (acctOf f = none) := by
            unfold Hid acctOf
            rw [hu0, hu3]
            show (if okA _ _ _ = true then _ else none) = none
            rw [if_neg]
            intro h
            have := ((okA_iff (f 1) (f 2) k).1 h).2.2.2
            omega
          go_wp2_with (first
            | (refine wpList_storeH rfl 33 _ _ rfl g (acct 0 ⟨#[]⟩ ⟨#[]⟩ 0) rfl rfl 33 _ H12.out infoAcct rfl (acct_one _ _ _ _) ?_
               intro w3 h3 o3 z3)
            | fail)
          refine bodyPost_ret (results_two (p := 2) (u := 3) rfl _ w3 g 33 _ _ rfl h3 Tryd.underlying33 rfl infoAcct) rfl ⟨?_, ?_⟩
          · rw [← HV.out, HR.out, HN.out]; rfl
          · exact Only.fresh HB2.out o3 hgl
end Go.Proofs.YtamijfdhaahalaaDoor
