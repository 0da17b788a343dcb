/-
  each over things that makes writes, and blockOf.
-/
import Derived.Test.YtadpopjhhanapaaJWritesR
namespace Go.Proofs.Ytadpopjhhanapaa
open Go Go.RowKit

theorem news7 (w : World) (ty : TypeId) (a b c d e f g : Value) (j : Nat) (u : Value) (h : [a, b, c, d, e, f, g][j]? = some u) : (w.alloc (.cells #[a, b, c, d, e, f, g] ty)).cell? ((⟨w.heap.size, 0, none⟩ : Addr).add j) = some u := by
  rw [add_plain, Nat.zero_add, World.cell?_alloc_mark]
  simpa using h
theorem bare_writeR (i : Row) (v : Value) : (writeR i v).bare = writeR i (.slice none 0 0) := writeR_with i v _
set_option maxRecDepth 8000 in
set_option maxHeartbeats 4000000 in
theorem eachwr_any {w : World} {r : Row} {a : Option Addr} {c : Nat} (hr : LiesB w r a) (hl : r.len ≤ 1000000) (hsm : r.small 1000000) :
    Calls Try.prog 47 #[.slice a r.len c, .func (.func 48) #[] #[]] w fun e w' => ∃ v' K, e = .returned v' ∧ OwnWr w' w.heap.size v' K ∧ K.map Wr.bare = writesR r ∧ Below w.heap.size w w' := by
  obtain ⟨n, hn⟩ : ∃ n, r.len = n := ⟨_, rfl⟩
  have HN : Hid (r.len = n) := hn
  rw [hn] at hl ⊢
  clear hn
  have hni : (n : Int) ≤ 1000000 := by omega
  go_enter Try.func47, Try.ntmps47
  go_wp2_with fail
  go_loopw [5, 10] (fun x y wr => ∃ (k : Nat) (K : List Wr), y = .int .i64 (k : Nat) ∧ k ≤ n ∧ OwnWr wr w.heap.size x K ∧ K.map Wr.bare = (writesR r).take k ∧ Below w.heap.size w wr) (fun _ y _ => n - (intOf y).toNat)
  case atStart => exact ⟨0, [], rfl, Nat.zero_le _, OwnWr.nil _ _, rfl, Below.refl _ _⟩
  case round =>
    obtain ⟨k, K, rfl, hk, hx, hK, hB⟩ := hrel
    have HX : Hid (OwnWr wr w.heap.size _ K) := hx
    have HK : Hid (K.map Wr.bare = (writesR r).take k) := hK
    clear hx hK
    by_cases hkn : k < n
    · have hki : (k : Int) < n := by omega
      have HY : Hid ((writesR r).take (k + 1) = (writesR r).take k ++ [writeR (rowAt r k) (.slice none 0 0)]) := writesR_take r k (by rw [HN.out]; exact hkn)
      obtain ⟨b, o, a1, c1, rfl, d0, d1, d2, hil, hli⟩ := (hr.below hB).nth k (by rw [HN.out]; exact hkn)
      have hm := fun W (hW : Below wr.heap.size wr W) => writeof_any (c := c1) (r.nth k).1 ⟨(r.nth k).2.1.toArray⟩ (hli.below hW) (Row.small_nth hsm k).2.2
      have HM : Hid (K.length ≤ 1000000) := by
        show _ ≤ _
        have := congrArg List.length HK.out
        rw [List.length_map, List.length_take, writesR_len, HN.out] at this
        omega
      clear hr hli hsm hil
      unfold rowAt at HY
      generalize hq : (r.nth k).2.2 = q at *
      clear hq
      have HM2 : Hid (∀ W, Below wr.heap.size wr W → Calls Try.prog 48 #[.agg #[.bool (r.nth k).1, .string ⟨(r.nth k).2.1.toArray⟩, .slice a1 q.len c1]] W fun e w' => WPost W w' q e ∧ Below W.heap.size W w') := hm
      clear hm
      generalize (r.nth k).1 = b0 at *
      generalize (⟨(r.nth k).2.1.toArray⟩ : ByteArray) = s0 at *
      generalize hm : q.len = m at *
      clear hm
      obtain ⟨i0, hi, hz0, hz1, hz2⟩ := infoWriteJ
      go_wp2_with (first
        | (go_at_call 48; refine (HM2.out _ (below_new1 _ _)).mono ?_; rintro e w1 ⟨⟨v1, rfl, hat, hlt⟩, hB1⟩
           obtain ⟨p2, n2, k2, rfl⟩ := hat.shape3
           have HX1 : Hid ((writeR q (.slice p2 n2 k2)).bare = writeR q (.slice none 0 0) ∧ (writeR q (.slice p2 n2 k2)).n < 18446744073709551616) := ⟨bare_writeR _ _, writeR_lt _ _⟩
           have hxs : (writeR q (.slice p2 n2 k2)).s = .slice p2 n2 k2 := writeR_s _ _
           generalize writeR q (.slice p2 n2 k2) = x at hat HX1 hxs ⊢
           obtain ⟨xa, xg, xr, xn, xb, xc, xs, xL⟩ := x
           dsimp only at hxs hat
           subst hxs
           unfold wra wrC
           dsimp only)
        | (have hB1' := one_alloc hB1
           have hB2 : Below wr.heap.size wr (World.alloc w1 (.cells #[.string xa, .bool xg, .bool xr, .int .u64 (xn : Nat), .string xb, .string xc, .slice p2 n2 k2] 38)) := below_new hB1' (below_new1 _ _)
           refine wpList_append_own2 _ rfl _ _ 22 rfl w.heap.size 38 i0 (.agg #[.string ⟨#[]⟩, .bool false, .bool false, .int .u64 0, .string ⟨#[]⟩, .string ⟨#[]⟩, .slice none 0 0]) 7 88 underWrites hi hz0 hz1 hz2 rfl (by omega) _ K.length (wcells K) rfl (HX.out.below0 hB2).1 ⟨w1.heap.size, 0, none⟩ 1 1 [.string xa, .bool xg, .bool xr, .int .u64 (xn : Nat), .string xb, .string xc, .slice p2 n2 k2] rfl rfl (news7 w1 _ _ _ _ _ _ _ _) (by intro u hu; simp at hu; rcases hu with rfl | rfl | rfl | rfl | rfl | rfl | rfl <;> rfl) (by omega) (by have := HM.out; unfold maxLen; omega) (by have := HM.out; omega) (Nat.le_trans hB.size hB2.size) ?_
           intro v' w2 hv2 hg2 hw2)
        | fail)
      have hB3 : Below w.heap.size w w2 := (below_new hB hB2).grown hg2 (Nat.le_trans hB.size hB2.size) (fun k hk => (HX.out.lt k hk).1)
      refine ⟨⟨k + 1, K ++ [⟨xa, xg, xr, xn, xb, xc, .slice p2 n2 k2, xL⟩], by go_num, by omega, ?_, ?_, hB3⟩, by simp [intOf]; omega⟩
      · refine (HX.out.below0 hB2).snoc ⟨⟨(hat.below (below_new1 _ _)), HX1.out.2⟩, fun b hb => ?_⟩ hv2 hg2 hw2
        have h1 := hlt b hb
        have h2 := hB.size
        rw [World.size_alloc] at h1 ⊢
        refine ⟨by omega, by omega, ?_⟩
        intro e
        have := (HX.out.lt b e.symm).2
        omega
      · rw [List.map_append, HK.out, HY.out, ← HX1.out.1]; rfl
    · have hki : ¬ (k : Int) < n := by omega
      obtain rfl : k = n := by omega
      have HE : Hid ((writesR r).take k = writesR r) := List.take_of_length_le (by rw [writesR_len]; have := HN.out; omega)
      go_wp2_with fail
      go_ret
      have := HK.out
      rw [HE.out] at this
      exact ⟨_, rfl, K, HX.out, this, hB⟩
end Go.Proofs.Ytadpopjhhanapaa
