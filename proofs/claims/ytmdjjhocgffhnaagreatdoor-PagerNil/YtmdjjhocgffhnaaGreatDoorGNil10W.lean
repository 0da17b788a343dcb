/-
  What PagerNil tells.
-/
import Derived.Test.YtmdjjhocgffhnaaGreatDoorGAwake
namespace Go.Proofs.YtmdjjhocgffhnaaGreatDoor
open Go Go.RowKit Go.Maps

set_option maxRecDepth 8000 in
set_option maxHeartbeats 4000000 in
theorem nil_walk (n : Int) (w : World) (hT : K.Tabs w) : Calls Tryz.prog 5 #[.int .i64 n] w fun e w' => e = .returned (.bool true) ∧ Below w.heap.size w w' := by
  have hro := groll_nil w
  have hal := galloc_nil w
  have hrd := gread_nil n w
  have hop := gopen_nil w
  have hnw := new_any 1 w
  go_enter Tryz.func5, Tryz.ntmps5
  go_wp2_with fail
  refine hro.mono ?_
  rintro e w' ⟨rfl, hw⟩
  have hw2 := hw.symm
  clear hw hro
  subst hw2
  go_wp2_with fail
  refine hal.mono ?_
  rintro e w' ⟨rfl, hw⟩
  have hw2 := hw.symm
  clear hw hal
  subst hw2
  go_wp2_with fail
  refine hrd.mono ?_
  rintro e w' ⟨rfl, hw⟩
  have hw2 := hw.symm
  clear hw hrd
  subst hw2
  go_wp2_with fail
  refine hop.mono ?_
  rintro e w' ⟨rfl, hw⟩
  have hw2 := hw.symm
  clear hw hop
  subst hw2
  go_wp2_with fail
  refine hnw.mono ?_
  rintro e w1 ⟨h, rfl, a1, hn1, hB1⟩
  have hsm := gopen_small a1 (show (Dev.new 1).size < 2 by decide)
  clear hnw
  go_wp2_with fail
  refine hsm.mono ?_
  rintro e w' ⟨rfl, hw⟩
  have hw2 := hw.symm
  clear hw hsm
  subst hw2
  have haw := awake_any (hT.below hB1)
  clear a1 hn1
  go_wp2_with fail
  refine haw.mono ?_
  rintro e w2 ⟨rfl, hB2⟩
  have hB12 := below_new hB1 hB2
  have hwr := gwrite_nil n 1 ⟨#[]⟩ w2
  clear haw hB1 hB2
  go_wp2_with fail
  refine hwr.mono ?_
  rintro e w' ⟨rfl, hw⟩
  have hw2 := hw.symm
  clear hw hwr
  subst hw2
  have hcm := gcommit_nil n n w2
  go_wp2_with fail
  refine hcm.mono ?_
  rintro e w3 ⟨rfl, hB3⟩
  have hB13 := below_new hB12 hB3
  clear hcm hB12 hB3
  obtain ⟨g4, hg4⟩ : ∃ g, w3.heap.size = g := ⟨_, rfl⟩
  obtain ⟨W4, hW4⟩ : ∃ W, w3.alloc (.cells #[.int .i64 n] 3) = W := ⟨_, rfl⟩
  have hB4 : Below w3.heap.size w3 W4 := by rw [← hW4]; exact below_new1 _ _
  have hus := guse_nil (some ⟨g4, 0, none⟩) 1 1 W4
  go_wp2_with fail
  refine hus.mono ?_
  rintro e w5 ⟨rfl, hB5⟩
  have hB15 := below_new hB13 (below_new hB4 hB5)
  clear hus hB13 hB4 hB5 hg4 hW4
  obtain ⟨g6, hg6⟩ : ∃ g, w5.heap.size = g := ⟨_, rfl⟩
  obtain ⟨W6, hW6⟩ : ∃ W, w5.alloc (.cells #[.int .i64 n] 3) = W := ⟨_, rfl⟩
  have hB6 : Below w5.heap.size w5 W6 := by rw [← hW6]; exact below_new1 _ _
  have hB16 := below_new hB15 hB6
  have hfe := gfree_nil (.slice (some ⟨g6, 0, none⟩) 1 1) W6
  have hsp := gspare_nil W6
  have hrs := greads_nil W6
  have hbk := gbroken_nil W6
  have hme := gmeta_nil W6
  go_wp2_with fail
  refine hfe.mono ?_
  rintro e w' ⟨rfl, hw⟩
  have hw2 := hw.symm
  clear hw hfe hB15 hB6
  subst hw2
  go_wp2_with fail
  refine hsp.mono ?_
  rintro e w' ⟨rfl, hw⟩
  have hw2 := hw.symm
  clear hw hsp
  subst hw2
  go_wp2_with fail
  refine hrs.mono ?_
  rintro e w' ⟨rfl, hw⟩
  have hw2 := hw.symm
  clear hw hrs
  subst hw2
  go_wp2_with fail
  refine hbk.mono ?_
  rintro e w' ⟨rfl, hw⟩
  have hw2 := hw.symm
  clear hw hbk
  subst hw2
  go_wp2_with fail
  refine hme.mono ?_
  rintro e w7 ⟨rfl, hB7⟩
  have hB17 := below_new hB16 hB7
  have heql := K.eql_meta w7 0 0 0 0 0 0 0 0
  clear hme hB16 hB7
  go_wp2_with fail
  go_ret
  exact ⟨rfl, hB17⟩
end Go.Proofs.YtmdjjhocgffhnaaGreatDoor
