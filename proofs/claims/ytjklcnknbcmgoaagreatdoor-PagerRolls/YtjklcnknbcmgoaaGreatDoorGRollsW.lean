/-
  PagerRolls' walk.
-/
import Derived.Test.YtjklcnknbcmgoaaGreatDoorGRollsA
import Derived.Test.YtjklcnknbcmgoaaGreatDoorGRollsB
import Derived.Test.YtjklcnknbcmgoaaGreatDoorGRollsC
import Derived.Test.YtjklcnknbcmgoaaGreatDoorGRollsD
namespace Go.Proofs.YtjklcnknbcmgoaaGreatDoor
open Go Go.RowKit Go.Maps

theorem rolls_walk {w : World} (hT : K.Tabs w) {p : Option Addr} {n c : Nat} {L : List TxF} (hx : TxsFull w p n L) (hnc : n ≤ c) (hc : c ≤ 9223372036854775807) (pgs fr : Int) :
    Calls Tryz.prog 6 #[.slice p n c, .int .i64 pgs, .int .i64 fr] w fun e w' => e = .returned (.bool true) ∧ Below w.heap.size w w' := by
  have hqb : -9 < pgs.tmod 9 ∧ pgs.tmod 9 < 9 := by
    have e1 := Int.tmod_lt_of_pos pgs (show (0 : Int) < 9 by omega)
    have e2 := Int.lt_tmod_of_pos pgs (show (0 : Int) < 9 by omega)
    exact ⟨by omega, by omega⟩
  by_cases h8 : n ≤ 8
  · by_cases hs : pgs.tmod 9 < 0
    · exact rolls_few_neg hT hx hnc hc h8 pgs fr _ rfl hs hqb
    · exact rolls_few_pos hT hx hnc hc h8 pgs fr _ rfl hs hqb
  · by_cases hs : pgs.tmod 9 < 0
    · exact rolls_many_neg hT hx hnc hc (by omega) pgs fr _ rfl hs hqb
    · exact rolls_many_pos hT hx hnc hc (by omega) pgs fr _ rfl hs hqb
end Go.Proofs.YtjklcnknbcmgoaaGreatDoor
