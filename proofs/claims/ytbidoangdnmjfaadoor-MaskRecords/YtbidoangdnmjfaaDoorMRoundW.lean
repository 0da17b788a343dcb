/-
  A region that draws its order within a round of a range over a function. Plain; nothing of the program.
-/
import Derived.Test.YtbidoangdnmjfaaDoorGTree2
import Derived.Test.YtbidoangdnmjfaaDoorGSeq
import Derived.OrdersIn
namespace Go.Proofs.YtbidoangdnmjfaaDoor
open Go Go.RowKit
section
variable {P : Program} {ops : Array Oper} {md : Region.Mode} {Q : Exit → Act → World → Prop} {l : Nat}
theorem rowsIn_wide {n : Nat} {row : String} {args : Array Value} {w : World} {R : Value → World → Prop} (h : Rows P row args w R) : RowsIn Fence.wide n P row args w R :=
  fun c cs _ => let ⟨v, w', r, s⟩ := h c cs; ⟨v, w', r, stepsIn_wide.2 s⟩
theorem wpOpIn_round (hd : ∀ (k : Nat) (o : Oper), ops[k]? = some o → ∀ c, o.op ≠ .defer c) (hQ : ¬ LetsOut Q) {k : Nat} {K : Act → World → Prop} {a : Act} {w : World} (h : wpOp P ops Q k K a w) : wpOpIn (Fence.wide.inRound l) 0 P ops Q k K a w := by
  unfold wpOp at h
  unfold wpOpIn
  cases ho : ops[k]? with
  | none => rw [ho] at h; exact h
  | some o =>
    rw [ho] at h
    dsimp only at h ⊢
    by_cases hw : Region.wanted o (yielded ops a.tmps) = true
    · rw [if_pos hw] at h ⊢
      rcases h with h | ⟨_, h⟩
      · unfold Oper.wpIn
        refine ⟨fun _ _ => trivial, ?_⟩
        rw [Oper.semAt_plain _ _ _ (hd k o ho)]
        unfold Oper.wp at h
        generalize (execOp a.eval o).run P w = r at h ⊢
        match r, h with
        | .ok (.value u) w', h => exact h
        | .ok .skip w', h => exact h
        | .ok (.defer d) w', h => exact h
        | .ok (.enter f args) w', h => exact ⟨fun h' => (by cases h'), callsIn_wide.2 h⟩
        | .ok (.row row args) w', h => exact ⟨fun h' => (by cases h'), rowsIn_wide h⟩
        | .halt (.panic u) w', h => exact h
      · exact absurd h hQ
    · rw [if_neg hw] at h ⊢
      exact ⟨fun _ _ => trivial, h⟩
theorem wpAnyIn_round (hd : ∀ (k : Nat) (o : Oper), ops[k]? = some o → ∀ c, o.op ≠ .defer c) (hQ : ¬ LetsOut Q) : ∀ {n : Nat} {seen : Array Bool} {a : Act} {w : World}, wpAny P md ops Q n seen a w → wpAnyIn (Fence.wide.inRound l) 0 P md ops Q n seen a w
  | 0, _, _, _, h => h
  | _ + 1, _, _, _, h => ⟨h.1, fun k hk => wpOpIn_mono (fun _ _ h' => wpAnyIn_round hd hQ h') (wpOpIn_round hd hQ (h.2 k hk))⟩
def noDefer (l : List Oper) : Bool := l.all fun o => match o.op with | .defer _ => false | _ => true
theorem noDefer_spec {ls : List Oper} (h : noDefer ls = true) : ∀ (k : Nat) (o : Oper), ls.toArray[k]? = some o → ∀ c, o.op ≠ .defer c := fun k o ho c e => by
  have h1 : o ∈ ls := by
    have ho2 : ls[k]? = some o := by simpa using ho
    exact List.mem_of_getElem? ho2
  have h2 := List.all_eq_true.1 h o h1
  rw [e] at h2
  cases h2
theorem wpIn_region_anyC {id : Nat} {a : Act} {w : World} {ls : List Oper} (C : World → Prop) (hm : P.follows .mixedOrders = true) (hd : noDefer ls = true) (hQ : ¬ LetsOut Q)
    (h : anyC P .any ls.toArray C Q ls.length (Array.replicate ls.length false) a w.drew) : (Code.region id ls.toArray true).wpIn (Fence.wide.inRound l) 0 P Q a w := by
  refine wpIn_region_any hm ?_
  have := wpAnyIn_round (l := l) (noDefer_spec hd) hQ h.any
  simpa using this
theorem wpIn_region_u {id : Nat} {a : Act} {w : World} {ls : List Oper} (C : World → Prop) (t : PlanU) (hm : P.follows .mixedOrders = true) (hd : noDefer ls = true) (hO : ¬ LetsOut Q) (hs : Region.noSelect ls.toArray = true) (hl : t.depth = ls.length)
    (hB : uOk .any ls.toArray t (Array.replicate ls.length false) = true) (hQ : ∀ c a w d v, Q (.panic c) (Act.put a d v) w → Q (.panic c) a w) (hC : C w.drew)
    (h : wpU P ls.toArray C Q t a w.drew) : (Code.region id ls.toArray true).wpIn (Fence.wide.inRound l) 0 P Q a w := by
  refine wpIn_region_anyC C hm hd hO ?_
  rw [← hl]
  rw [← hl] at hB
  exact anyC_u hs hQ t _ a _ hB hC h
end
end Go.Proofs.YtbidoangdnmjfaaDoor
