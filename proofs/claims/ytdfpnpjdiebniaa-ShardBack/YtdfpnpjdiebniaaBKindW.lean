/-
  kindOf, and what writes a container's bits.
-/
import Derived.Test.YtdfpnpjdiebniaaBBldW
import Derived.Test.YtdfpnpjdiebniaaBGA
namespace Go.Proofs.Ytdfpnpjdiebniaa
open Go Go.RowKit Go.Maps

/-- The two kinds. -/
def kindV (m : Nat) (v : Value) (w w' : World) : Prop :=
  (m ≤ 32 ∧ v = .tuple #[.func (.func 69) #[] #[], .func (.func 70) #[] #[], .int .i64 (m : Nat)]) ∨
  (32 < m ∧ ∃ b, v = .tuple #[.func (.func 71) #[] #[], .func (.func 72) #[] #[.pointer (some ⟨b, 0, none⟩)], .int .i64 32] ∧ w.heap.size ≤ b ∧ Holds w' b 3 #[.int .i64 (m : Nat)])

theorem kind_any (m : Nat) (w : World) (hm : m ≤ 256) : Calls Try.prog 54 #[.int .i64 (m : Nat)] w fun e w' => ∃ v, e = .returned v ∧ kindV m v w w' ∧ Below w.heap.size w w' := by
  have hb := below_new1 w (.cells #[.int .i64 (m : Nat)] 3)
  have hh := Holds.new w 3 #[.int .i64 (m : Nat)]
  by_cases h : m ≤ 32
  · have hI : (m : Int) ≤ 32 := by omega
    go_enter Try.func54, Try.ntmps54
    go_wp2
    go_region
    go_wp2
    go_ret3
    exact ⟨_, rfl, .inl ⟨h, rfl⟩, hb.drew⟩
  · have hI : ¬ (m : Int) ≤ 32 := by omega
    go_enter Try.func54, Try.ntmps54
    go_wp2
    go_ret3
    exact ⟨_, rfl, .inr ⟨by omega, _, rfl, Nat.le_refl _, hh⟩, hb⟩

/-- The bits as bytes. -/
def bitB (p : Nat → Bool) : List UInt8 := (List.range 32).map fun i => UInt8.ofNat (bt p i)

theorem bitB_len (p : Nat → Bool) : (bitB p).length = 32 := by simp [bitB]

theorem convert_bits {w : World} {g : Nat} {t : TypeId} {p : Nat → Bool} (h : Holds w g t (contA p)) :
    (convert 86 9 (.slice (some ⟨g, 0, none⟩) 32 32)).run Try.prog w = .ok (.string ⟨(bitB p).toArray⟩) w := by
  have := run_convert_bytes_back (P := Try.prog) w 86 9 5 ⟨g, 0, none⟩ 32 (bitB p) underBytes (by kernel_rfl) (by kernel_rfl) (fun j hj => ?_)
  · rw [bitB_len] at this; exact this
  · have hj' : j < 32 := by rw [← bitB_len p]; exact hj
    have hc := h.cell j
    rw [show (⟨g, 0, none⟩ : Addr).add j = ⟨g, j, none⟩ by simp [Addr.add]; omega, hc, contA_get p j hj']
    have := bt_lt p j
    simp [bitB]
    omega

set_option maxRecDepth 8000 in
theorem bits_any (p : Nat → Bool) (w : World) : Calls Try.prog 71 #[.agg (contA p)] w fun e w' => e = .returned (.string ⟨(bitB p).toArray⟩) ∧ Below w.heap.size w w' := by
  obtain ⟨W0, hW⟩ : ∃ W0, World.alloc w (.cells (contA p) 76) = W0 := ⟨_, rfl⟩
  have h1 : Holds W0 w.heap.size 76 (contA p) := by rw [← hW]; exact Holds.new _ _ _
  have hB : Below w.heap.size w W0 := by rw [← hW]; exact below_new1 _ _
  have hcv := convert_bits h1
  have hsz : (contA p).size = 32 := contA_size p
  generalize contA p = cs at h1 hW hsz ⊢
  generalize bitB p = bs at hcv ⊢
  go_enter Try.func71, Try.ntmps71
  go_wp2
  go_ret
  exact ⟨rfl, hB⟩
end Go.Proofs.Ytdfpnpjdiebniaa
