/-
  What Node and Root do, whatever pairs there are.
-/
import Derived.Test.YtjdhdeffiigpbaaDoorTTellW
namespace Go.Proofs.YtjdhdeffiigpbaaDoor
open Go Go.RowKit Go.BigFrame Nb

theorem alikeR_perm {d : Int} {m : Nat} {L L' : List Pr} (h : L.Perm L') : alikeR d m L' ↔ alikeR d m L := by
  unfold alikeR
  constructor
  · rintro ⟨h1, h2, h3, h4⟩
    exact ⟨fun e => h1 (by subst e; exact List.nil_perm.1 h), h2, h3, fun x hx y hy => h4 x (h.mem_iff.1 hx) y (h.mem_iff.1 hy)⟩
  · rintro ⟨h1, h2, h3, h4⟩
    exact ⟨fun e => h1 (by subst e; exact List.perm_nil.1 h), h2, h3, fun x hx y hy => h4 x (h.mem_iff.2 hx) y (h.mem_iff.2 hy)⟩
theorem may_uniq {m n : Nat} {L : List Pr} (h1 : May m L) (h2 : May n L) (h0 : L ≠ []) : m = n := by
  obtain ⟨x, hx⟩ := List.exists_mem_of_ne_nil L h0
  rw [← h1.len x hx, h2.len x hx]
/-- May a node be told from d on? -/
def tells (d : Int) (L : List Pr) : Prop := ∃ m, May m L ∧ alikeR d m L
def NodePost (w : World) (d : Int) (L : List Pr) (e : Ending) (w' : World) : Prop :=
  ((tells d L ∧ e = .returned (.tuple #[.string ⟨(node d.toNat L).toArray⟩, .int .i64 0])) ∨ (¬ tells d L ∧ e = .returned (.tuple #[.string ⟨#[]⟩, .int .i64 1]))) ∧ Below w.heap.size w w'
theorem boxedT_new (w : World) : BoxedT (w.alloc (.cells #[.func (.func 38) #[] #[.pointer (some ⟨w.heap.size, 0, none⟩)]] 63)) w.heap.size := by
  unfold BoxedT; rw [World.cell?_alloc_mark]; rfl
set_option maxRecDepth 8000 in
set_option maxHeartbeats 2000000 in
theorem node_any (d : Int) (v : Value) (L : List Pr) (w : World) (h : PairsAt w v L) (hT : K.Tabs w) (hl : L.length ≤ 100000) (hk : ∀ p ∈ L, p.1.size ≤ 100000) (hv : ∀ p ∈ L, p.2.size ≤ 1000000) :
    Calls Tryd.prog 18 #[.int .i64 d, v] w (NodePost w d L) := by
  have hs := sorted_any v L w h (by omega) (fun p hp => by have := hk p hp; omega)
  have hmf : ∀ (fn : Fn) (first cap : Array Value) (w : World), (Instr.makeFunc fn first cap).run Tryd.prog w = .ok (.func fn first cap) w := fun _ _ _ _ => rfl
  obtain ⟨pn, cn, rfl⟩ := h.shape
  have HK : Hid ((∀ p ∈ L, p.1.size ≤ 100000) ∧ (∀ p ∈ L, p.2.size ≤ 1000000) ∧ L.length ≤ 100000 ∧ K.Tabs w) := ⟨hk, hv, hl, hT⟩
  obtain ⟨n, hn⟩ : ∃ n, L.length = n := ⟨_, rfl⟩
  rw [hn] at hs ⊢
  have HN : Hid (L.length = n) := hn
  clear h hl hk hn hv hT
  go_enter Tryd.func18, Tryd.ntmps18
  go_wp2_with fail
  refine hs.mono ?_
  rintro e w1 ⟨b, v', rfl, h1, h2, hB1⟩
  cases b with
  | false =>
    have HNO : Hid (¬ tells d L) := fun ⟨m, hm, _⟩ => h2 rfl ⟨m, hm⟩
    clear h1 h2
    go_wp2_with fail
    go_ret2
    exact ⟨.inr ⟨HNO.out, rfl⟩, hB1⟩
  | true =>
    obtain ⟨hmL, L', hperm, hrise, ⟨m, hmay⟩, hP⟩ := h1 rfl
    have hlen := hperm.length_eq
    have hal := alike_any d v' L' m w1 hP (by rw [← hlen]; have := HK.out.2.2.1; omega) hmay hrise
    obtain ⟨p1, c1, rfl⟩ := hP.shape
    have HP : Hid (L.Perm L' ∧ Rise L' ∧ May m L' ∧ PairsAt w1 (.slice p1 L'.length c1) L' ∧ L'.length = n) := ⟨hperm, hrise, hmay, hP, by rw [← hlen]; exact HN.out⟩
    have HB1 : Hid (Below w.heap.size w w1) := hB1
    obtain ⟨n', hn'⟩ : ∃ n', L'.length = n' := ⟨_, rfl⟩
    have HLN : Hid (L'.length = n') := hn'
    rw [hn'] at hal HP ⊢
    clear h1 h2 hmL hperm hrise hmay hP hlen hB1 hn'
    go_wp2_with fail
    refine hal.mono ?_
    rintro e w2 ⟨r, rfl, hr, hB2⟩
    have HB2 : Hid (Below w.heap.size w w2) := HB1.out.trans (hB2.mono HB1.out.size)
    have HP2 : Hid (PairsAt w2 (.slice p1 n' c1) L') := HP.out.2.2.2.1.below hB2
    clear hB2
    cases r with
    | false =>
      have HNO : Hid (¬ tells d L) := fun ⟨m', hm', ha⟩ => by
        have hne : L ≠ [] := ha.1
        have e : m' = m := may_uniq (hm'.perm HP.out.1) HP.out.2.2.1 (fun q => hne (by have := HP.out.1; rw [q] at this; exact List.perm_nil.1 this))
        subst e
        have := hr.2 ((alikeR_perm HP.out.1).2 ha)
        cases this
      clear hr hal
      go_wp2_with fail
      go_ret2
      exact ⟨.inr ⟨HNO.out, rfl⟩, HB2.out⟩
    | true =>
      have ha := hr.1 rfl
      have hd0 := ha.2.1
      obtain ⟨k, rfl⟩ : ∃ k : Nat, d = k := ⟨d.toNat, by omega⟩
      have HA : Hid (alikeR k m L') := ha
      have HYES : Hid (tells k L ∧ node k L' = node k L) := ⟨⟨m, HP.out.2.2.1.perm HP.out.1.symm, (alikeR_perm HP.out.1).1 ha⟩, (node_perm (L'.length + 1) L' L m k (Nat.lt_succ_self _) HP.out.1.symm HP.out.2.2.1)⟩
      have hkm : k ≤ m := by have := ha.2.2.1; omega
      have HKM : Hid (k ≤ m) := hkm
      clear hr ha hal hd0 hkm
      obtain ⟨bx, hbx⟩ : ∃ bx, w2.heap.size = bx := ⟨_, rfl⟩
      go_wp2_with fail
      have hW := boxedT_new w2
      have hBW : Below w2.heap.size w2 (w2.alloc (.cells #[.func (.func 38) #[] #[.pointer (some ⟨w2.heap.size, 0, none⟩)]] 63)) := (Below.refl _ _).alloc (Nat.le_refl _) _
      rw [hbx] at hW hBW
      have HBW : Hid (Below w.heap.size w (w2.alloc (.cells #[.func (.func 38) #[] #[.pointer (some ⟨bx, 0, none⟩)]] 63))) := HB2.out.trans (by rw [← hbx] at hBW ⊢; exact hBW.mono HB2.out.size)
      have hPW : PairsAt (w2.alloc (.cells #[.func (.func 38) #[] #[.pointer (some ⟨bx, 0, none⟩)]] 63)) (.slice p1 n' c1) L' := HP2.out.below (by rw [← hbx] at hBW ⊢; exact hBW)
      have hm : m ≤ 100000 := by
        obtain ⟨x, hx⟩ := List.exists_mem_of_ne_nil L' HA.out.1
        have h1 := HP.out.2.2.1.len x hx
        have h2 := HK.out.1 x (HP.out.1.mem_iff.2 hx)
        have h3 : (kb x).length = x.1.size := rfl
        omega
      have htell := tell_any (L'.length + 1) L' k m bx (.slice p1 n' c1) _ (Nat.lt_succ_self _) ⟨HA.out.1, HP.out.2.2.1, HP.out.2.1, by have := HA.out.2.2.2; rwa [Int.toNat_natCast] at this, HKM.out, fun p hp => HK.out.2.1 p (HP.out.1.mem_iff.2 hp), hm, by rw [HLN.out]; have := HK.out.2.2.1; have := HN.out; have := HP.out.2.2.2.2; omega, hPW, hW, HK.out.2.2.2.below HBW.out⟩
      unfold TellGoal at htell
      refine htell.mono ?_
      rintro e w3 ⟨rfl, hB3⟩
      clear htell hW hBW hPW
      go_wp2_with fail
      go_ret2
      exact ⟨.inl ⟨HYES.out.1, by rw [HYES.out.2]; rfl⟩, HBW.out.trans (hB3.mono HBW.out.size)⟩
/-- A map's root. -/
def rootF (L : List Pr) : Nat → UInt8 := if L = [] then K.hashOf [128] else K.hashOf (node 0 L)
def RootPost (w : World) (L : List Pr) (e : Ending) (w' : World) : Prop :=
  ((mayL L ∧ e = .returned (.tuple #[.agg (K.bytesA 32 (rootF L)), .int .i64 0])) ∨ (¬ mayL L ∧ e = .returned (.tuple #[.agg (K.bytesA 32 fun _ => 0), .int .i64 1]))) ∧ Below w.heap.size w w'
theorem may_nil : mayL [] := ⟨0, ⟨(fun _ h => by cases h), (fun _ h => by cases h), (fun _ h => by cases h), List.Pairwise.nil⟩⟩
theorem tells_zero {L : List Pr} (h0 : L ≠ []) : tells 0 L ↔ mayL L :=
  ⟨fun ⟨m, h, _⟩ => ⟨m, h⟩, fun ⟨m, h⟩ => ⟨m, h, h0, Int.le_refl _, by omega, fun x _ y _ => by simp⟩⟩
set_option maxRecDepth 8000 in
set_option maxHeartbeats 2000000 in
theorem root_any (v : Value) (L : List Pr) (w : World) (h : PairsAt w v L) (hT : K.Tabs w) (hl : L.length ≤ 100000) (hk : ∀ p ∈ L, p.1.size ≤ 100000) (hv : ∀ p ∈ L, p.2.size ≤ 1000000) :
    Calls Tryd.prog 24 #[v] w (RootPost w L) := by
  by_cases h0 : L = []
  · subst h0
    obtain ⟨p, c, rfl⟩ := h.shape
    exact (root_none p c w hT).mono fun e w' ⟨he, hB⟩ => ⟨.inl ⟨may_nil, by rw [he]; rfl⟩, hB⟩
  by_cases hm : mayL L
  · have hB0 : ∀ zs, Below w.heap.size w (w.alloc (.cells zs 40)) := fun zs => (Below.refl _ _).alloc (Nat.le_refl _) _
    obtain ⟨zs, hzs⟩ : ∃ zs, K.bytesA 32 (fun _ => 0) = zs := ⟨_, rfl⟩
    have hnode := node_any 0 v L (w.alloc (.cells zs 40)) (h.below (hB0 zs)) (hT.below (hB0 zs)) hl hk hv
    have hz := zeroSum14
    have hzz : zs.size = 32 := by rw [← hzs]; exact K.bytesA_size 32 _
    rw [hzs] at hz
    have hlen : L.length ≠ 0 := fun e => h0 (List.eq_nil_of_length_eq_zero e)
    obtain ⟨n, hn⟩ : ∃ n, L.length = n := ⟨_, rfl⟩
    obtain ⟨m, hmay⟩ := hm
    have hNl : ((⟨(node 0 L).toArray⟩ : ByteArray)).size ≤ 100000000 := by
      show (node 0 L).length ≤ _
      have h1 := node_len (d := 0) hmay hv
      have h2 : m ≤ 100000 := by
        obtain ⟨x, hx⟩ := List.exists_mem_of_ne_nil L h0
        have h1 := hmay.len x hx
        have h2 := hk x hx
        have h3 : (kb x).length = x.1.size := rfl
        omega
      omega
    obtain ⟨Z, hZ⟩ : ∃ Z : ByteArray, (⟨(node 0 L).toArray⟩ : ByteArray) = Z := ⟨_, rfl⟩
    rw [hZ] at hNl
    have HS := fun w hT => sumOne Z hNl w hT
    have hon := K.bytesA_one 32 (K.hashOf Z.data.toList)
    have hss : (K.bytesA 32 (K.hashOf Z.data.toList)).size = 32 := K.bytesA_size 32 _
    have hR : K.bytesA 32 (rootF L) = K.bytesA 32 (K.hashOf Z.data.toList) := by
      unfold rootF
      rw [if_neg h0, ← hZ]
    obtain ⟨sm, hsm⟩ : ∃ sm, K.bytesA 32 (K.hashOf Z.data.toList) = sm := ⟨_, rfl⟩
    rw [hsm] at HS hon hss hR
    have hin : (Tryd.prog.info? 40).map (·.size) = some sm.size := by rw [hss]; exact infoSum14
    have HR : Hid (K.bytesA 32 (rootF L) = sm ∧ mayL L ∧ tells 0 L ∧ (⟨(node (0 : Int).toNat L).toArray⟩ : ByteArray) = Z) := ⟨hR, ⟨m, hmay⟩, (tells_zero h0).2 ⟨m, hmay⟩, hZ⟩
    obtain ⟨pn, cn, rfl⟩ := h.shape
    rw [hn] at hnode hlen ⊢
    have hni : ¬ (n : Int) = 0 := by omega
    have HS' : Hid (∀ w : World, K.Tabs w → Calls Tryd.prog 33 #[.slice (some ⟨w.heap.size, 0, none⟩) 1 1] (w.alloc (.cells #[.string Z] 9)) fun e w' => e = .returned (.agg sm) ∧ Below w.heap.size w w') := HS
    have HT : Hid (K.Tabs w) := hT
    have HB0 : Hid (Below w.heap.size w (w.alloc (.cells zs 40))) := hB0 zs
    clear hn hl hk hv h h0 hzs hlen hmay hNl hZ HS hR hsm hB0 hT
    go_enter Tryd.func24, Tryd.ntmps24
    go_wp2_with fail
    refine hnode.mono ?_
    rintro e w1 ⟨hcase, hB1⟩
    rcases hcase with ⟨_, he⟩ | ⟨hno, _⟩
    · rw [HR.out.2.2.2] at he
      subst he
      have h1 : K.Holds w1 w.heap.size 40 zs := K.Below.holds hB1 (K.Holds.new _ _ _)
      have hB1' := alloc_below hB1
      clear hnode hB1
      go_wp2_with fail
      refine (HS'.out _ (HT.out.below hB1')).mono ?_
      rintro e w2 ⟨rfl, hB2⟩
      have h2 := K.Below.holds hB2 h1
      dsimp only
      go_wp2_with (first
        | (refine K.wpList_storeH rfl 40 _ _ rfl w.heap.size sm rfl rfl 40 zs h2 hin (by rw [hzz, hss]) hon ?_
           intro w3 h3 o3 z3)
        | fail)
      refine bodyPost_ret (results_sumT rfl _ _ w.heap.size 40 sm _ rfl rfl h3 hss) rfl ?_
      exact ⟨.inl ⟨HR.out.2.1, by rw [HR.out.1]; rfl⟩, K.Only.fresh (hB1'.trans (hB2.mono hB1'.size)) o3 (Nat.le_refl _)⟩
    · exact absurd HR.out.2.2.1 hno
  · exact (root_bad v L w h (by omega) (fun p hp => by have := hk p hp; omega) hm h0).mono fun e w' ⟨he, hB⟩ => ⟨.inr ⟨hm, he⟩, hB⟩
end Go.Proofs.YtjdhdeffiigpbaaDoor
