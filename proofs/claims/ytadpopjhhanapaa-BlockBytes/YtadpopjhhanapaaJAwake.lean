/-
  awake: the chapter's examples.
-/
import Derived.Test.YtadpopjhhanapaaJReadW
namespace Go.Proofs.Ytadpopjhhanapaa
open Go Go.RowKit

def tw16 : Wr := ⟨⟨#[97, 97, 97, 97, 97, 97, 97, 97, 97, 97, 97, 97, 97, 97, 97, 97, 97, 97, 97, 97]⟩, false, false, 0, ⟨#[]⟩, ⟨#[]⟩, .slice none 0 0, []⟩
theorem aw_bytes : bytesOf 1 [] = some [194, 1, 192] := by decide
theorem aw_zero : bytesOf 0 [] = none := by decide
theorem aw_twice : bytesOf 1 [tw16, tw16] = none := by
  have h : okB 1 [tw16, tw16] = false := by
    have h1 : kl tw16.a tw16.a = false := kl_irrefl _
    unfold okB riseL riseL
    rw [h1]
    simp
  unfold bytesOf
  rw [h]; rfl
def awR : Row := .item false [1] .nil (.item true [] .nil .nil)
theorem aw_dec : decode [194, 1, 192] = some (.item true [] awR .nil) := by kernel_rfl
theorem aw_blk : blkR awR = (1, []) := by kernel_rfl
theorem aw_read : readOf [194, 1, 192] = some (1, []) := by
  unfold readOf
  rw [aw_dec]
  show (if 60000 < 3 then none else if bytesOf (blkR awR).1 (blkR awR).2 = some [194, 1, 192] then some (blkR awR) else none) = _
  rw [aw_blk, aw_bytes]
  rfl
theorem twice_at (w : World) : WritesAt (w.alloc (.cells #[.string tw16.a, .bool false, .bool false, .int .u64 0, .string ⟨#[]⟩, .string ⟨#[]⟩, .slice none 0 0, .string tw16.a, .bool false, .bool false, .int .u64 0, .string ⟨#[]⟩, .string ⟨#[]⟩, .slice none 0 0] 38)) (.slice (some ⟨w.heap.size, 0, none⟩) 2 2) [tw16, tw16] := by
  have h := Holds.new w 38 #[.string tw16.a, .bool false, .bool false, .int .u64 0, .string ⟨#[]⟩, .string ⟨#[]⟩, .slice none 0 0, .string tw16.a, .bool false, .bool false, .int .u64 0, .string ⟨#[]⟩, .string ⟨#[]⟩, .slice none 0 0]
  refine ⟨fun x hx => ?_, .inr ⟨_, 0, 2, rfl, Nat.le_refl _, fun i x hx => ?_⟩⟩
  · have : x = tw16 := by simpa using hx
    subst this
    exact ⟨SlotsAt.nil _ _ _, by decide⟩
  · match i with
    | 0 => simp at hx; subst hx; exact ⟨h.cell 0, h.cell 1, h.cell 2, h.cell 3, h.cell 4, h.cell 5, h.cell 6⟩
    | 1 => simp at hx; subst hx; exact ⟨h.cell 7, h.cell 8, h.cell 9, h.cell 10, h.cell 11, h.cell 12, h.cell 13⟩
    | i + 2 => simp at hx
theorem wpList_loadK {ops : Array Oper} {rest : List Oper} {op : Oper} {a : Act} {w : World} {Q : Exit → Act → World → Prop} {n : Int} {v : Value} (x : Operand) (ho : op.op = .load 24 x)
    (b : Nat) (hx : a.eval x = .pointer (some ⟨b, 0, none⟩)) (hh : Holds w b 24 #[.int .i64 n, v]) (hw : Region.wanted op (yielded ops a.tmps) = true)
    (h : wpList Try.prog ops Q rest (a.put op.dst (.agg #[.int .i64 n, v])) w) : wpList Try.prog ops Q (op :: rest) a w :=
  wpList_loadG hw _ x ho b hx _ _ _ hh Try.underlying24 rfl infoBlk2 h
set_option maxRecDepth 8000 in
set_option maxHeartbeats 4000000 in
theorem awake_any (w : World) : Calls Try.prog 9 #[] w fun e w' => e = .returned (.bool true) ∧ Below w.heap.size w w' := by
  have HBY : Hid (Calls Try.prog 11 #[.agg #[.int .i64 1, .slice none 0 0]] w fun e w' => e = .returned (.tuple #[.string ⟨#[194, 1, 192]⟩, .int .i64 0]) ∧ Below w.heap.size w w') := by
    have := kbytes_any (n := 1) (WritesAt.nil w none 0) (by decide)
    rw [aw_bytes] at this
    exact this
  have HRD : Hid (∀ W, Calls Try.prog 13 #[.string ⟨#[194, 1, 192]⟩] W fun e w' => (∃ p c, e = .returned (.tuple #[.agg #[.int .i64 1, .slice p 0 c], .int .i64 0])) ∧ Below W.heap.size W w') := fun W => by
    refine (kread_any ⟨#[194, 1, 192]⟩ W).mono ?_
    rintro e w' ⟨h, hB⟩
    have e1 : (⟨#[194, 1, 192]⟩ : ByteArray).data.toList = [194, 1, 192] := rfl
    rw [e1, aw_read] at h
    obtain ⟨v', K, rfl, hat, hK⟩ := h
    have : K = [] := List.map_eq_nil_iff.1 hK
    subst this
    obtain ⟨p, c, rfl⟩ := hat.shape
    exact ⟨⟨p, c, rfl⟩, hB⟩
  have HAC : Hid (∀ W, Calls Try.prog 18 #[.agg #[.string tw16.a, .bool false, .bool false, .int .u64 1, .string ⟨#[]⟩, .string ⟨#[]⟩, .slice none 0 0], .agg #[.int .u64 0, .string ⟨#[]⟩, .string ⟨#[]⟩, .int .i64 0], .bool false, .int .i64 7] W fun e w' => e = .returned (.tuple #[.agg #[.int .u64 1, .string ⟨#[]⟩, .string ⟨#[]⟩, .int .i64 7], .bool true]) ∧ Below W.heap.size W w') := fun W =>
    kacct_any (w := W) (x := { tw16 with n := 1 }) ⟨none, 0, 0, rfl⟩ 0 ⟨#[]⟩ ⟨#[]⟩ 0 false 7
  have HC0 : Hid (∀ W, Calls Try.prog 16 #[.agg #[.int .i64 0, .slice none 0 0]] W fun e w' => e = .returned (.int .i64 19) ∧ Below W.heap.size W w') := fun W => by
    have := kcheck_any (n := 0) (WritesAt.nil W none 0) (by decide)
    rw [aw_zero] at this
    exact this
  have HC2 : Hid (∀ W v, WritesAt W v [tw16, tw16] → Calls Try.prog 16 #[.agg #[.int .i64 1, v]] W fun e w' => e = .returned (.int .i64 19) ∧ Below W.heap.size W w') := fun W v hv => by
    have := kcheck_any (n := 1) hv (by decide)
    rw [aw_twice] at this
    exact this
  have HTO : Hid (∀ W v, WritesAt W v [tw16, tw16] → Calls Try.prog 20 #[.agg #[.int .i64 1, v]] W fun e w' => (∃ p c, e = .returned (.slice p 2 c)) ∧ Below W.heap.size W w') := fun W v hv => by
    refine (touched_any (n := 1) hv (by decide)).mono ?_
    rintro e w' ⟨v', rfl, h, hB⟩
    obtain ⟨p, c, rfl⟩ := h.shape
    exact ⟨⟨p, c, rfl⟩, hB⟩
  have HT := twice_at
  have HT : Hid (∀ w : World, WritesAt (w.alloc (.cells #[.string tw16.a, .bool false, .bool false, .int .u64 0, .string ⟨#[]⟩, .string ⟨#[]⟩, .slice none 0 0, .string tw16.a, .bool false, .bool false, .int .u64 0, .string ⟨#[]⟩, .string ⟨#[]⟩, .slice none 0 0] 38)) (.slice (some ⟨w.heap.size, 0, none⟩) 2 2) [tw16, tw16]) := HT
  unfold tw16 at HAC HT
  dsimp only at HAC HT
  go_enter Try.func9, Try.ntmps9
  go_wp2_with (first
    | (go_at_call 11; refine HBY.out.mono ?_; rintro e w1 ⟨rfl, hB1⟩)
    | (go_at_call 13; refine (HRD.out _).mono ?_; rintro e w2 ⟨⟨p2, c2, rfl⟩, hB2⟩)
    | (go_at_call 18; refine (HAC.out _).mono ?_; rintro e w3 ⟨rfl, hB3⟩
       have f3 := below_holds hB3 (((Holds.new w2 24 #[.int .i64 1, .slice p2 0 c2]).alloc _).alloc _)
       have f6 := below_holds hB3 (Holds.new (World.alloc (World.alloc w2 (.cells #[.int .i64 1, .slice p2 0 c2] 24)) (.cells #[.string ⟨#[97, 97, 97, 97, 97, 97, 97, 97, 97, 97, 97, 97, 97, 97, 97, 97, 97, 97, 97, 97]⟩, .bool false, .bool false, .int .u64 0, .string ⟨#[]⟩, .string ⟨#[]⟩, .slice none 0 0, .string ⟨#[97, 97, 97, 97, 97, 97, 97, 97, 97, 97, 97, 97, 97, 97, 97, 97, 97, 97, 97, 97]⟩, .bool false, .bool false, .int .u64 0, .string ⟨#[]⟩, .string ⟨#[]⟩, .slice none 0 0] 38)) 24 #[.int .i64 1, .slice (some ⟨w2.heap.size + 1, 0, none⟩) 2 2])
       rw [World.size_alloc, World.size_alloc] at f6
       have hw := HT.out (World.alloc w2 (.cells #[.int .i64 1, .slice p2 0 c2] 24))
       rw [World.size_alloc] at hw
       have hw3 := (hw.below (below_new1 _ (.cells #[.int .i64 1, .slice (some ⟨w2.heap.size + 1, 0, none⟩) 2 2] 24))).below hB3
       have k3 : (w3.alloc (.cells #[.int .u64 1, .string ⟨#[]⟩, .string ⟨#[]⟩, .int .i64 7] 40)).cell? ⟨w2.heap.size, 0, none⟩ = some (.int .i64 1) := (f3.alloc _).cell 0
       have H3 : Hid (Below w2.heap.size w2 w3 ∧ Holds w3 (w2.heap.size + 1 + 1) 24 #[.int .i64 1, .slice (some ⟨w2.heap.size + 1, 0, none⟩) 2 2] ∧ WritesAt w3 (.slice (some ⟨w2.heap.size + 1, 0, none⟩) 2 2) [tw16, tw16]) := ⟨below_new (below_new1 _ (.cells #[.int .i64 1, .slice p2 0 c2] 24)) (below_new (below_new1 _ (.cells #[.string ⟨#[97, 97, 97, 97, 97, 97, 97, 97, 97, 97, 97, 97, 97, 97, 97, 97, 97, 97, 97, 97]⟩, .bool false, .bool false, .int .u64 0, .string ⟨#[]⟩, .string ⟨#[]⟩, .slice none 0 0, .string ⟨#[97, 97, 97, 97, 97, 97, 97, 97, 97, 97, 97, 97, 97, 97, 97, 97, 97, 97, 97, 97]⟩, .bool false, .bool false, .int .u64 0, .string ⟨#[]⟩, .string ⟨#[]⟩, .slice none 0 0] 38)) (below_new (below_new1 _ _) hB3)), f6, hw3⟩
       clear f3 f6 hw hw3)
    | (go_at_call 16; refine (HC2.out _ _ hw5).mono ?_; rintro e w6 ⟨rfl, hB6⟩
       have f7 := below_holds hB6 f5
       have hw6 := hw5.below hB6
       have q6 := below_holds hB6 q5
       have q60 := q6.cell 0
       have q63 := q6.cell 3
       simp at q60 q63)
    | (go_at_call 16; refine (HC0.out _).mono ?_; rintro e w5 ⟨rfl, hB5⟩
       have f5 := below_holds hB5 (H3.out.2.1.alloc (.cells #[.int .u64 1, .string ⟨#[]⟩, .string ⟨#[]⟩, .int .i64 7] 40))
       have hw5 := (H3.out.2.2.below (below_new1 _ (.cells #[.int .u64 1, .string ⟨#[]⟩, .string ⟨#[]⟩, .int .i64 7] 40))).below hB5
       have q5 := below_holds hB5 (Holds.new w3 40 #[.int .u64 1, .string ⟨#[]⟩, .string ⟨#[]⟩, .int .i64 7])
       clear k3)
    | (refine wpList_loadK _ rfl _ rfl f7 rfl ?_)
    | (refine wpList_loadK _ rfl _ rfl f5 rfl ?_)
    | (go_at_call 20; refine (HTO.out _ _ hw6).mono ?_; rintro e w7 ⟨⟨p7, c7, rfl⟩, hB7⟩)
    | fail)
  go_ret
  exact ⟨rfl, below_new hB1 (below_new hB2 (below_new H3.out.1 (below_new (below_new1 _ (.cells #[.int .u64 1, .string ⟨#[]⟩, .string ⟨#[]⟩, .int .i64 7] 40)) (below_new hB5 (below_new hB6 hB7)))))⟩
end Go.Proofs.Ytadpopjhhanapaa
