/- Contract of abaculushand.Nat: a number of the document's as the program's. -/
import Derived.Test.YtjaepdjidfhamaaDoorFromOf
namespace Go.Proofs.YtjaepdjidfhamaaDoor
open Go.RowKit
set_option linter.unusedVariables false

theorem bits_few {n : Int} {k m : Nat} (h : IsBits n k) (hn : n < 2 ^ m) : k ≤ m := by
  by_cases hk : k = 0
  · omega
  · have h2 := h.2 hk
    by_cases hc : m ≤ k - 1
    · have := two_pow_mono hc
      omega
    · omega
set_option maxRecDepth 100000 in
set_option maxHeartbeats 1000000 in
theorem hand_nat (n : Int) (hn : 0 ≤ n) (hlt : n < 2 ^ 384) (p : Option Addr) (len cap : Nat) (w : World)
    (nb : ∀ w', Below w.heap.size w w' → Calls Tryd.prog 67 #[.slice p len cap] w' (RetBytes n w')) :
    Calls Tryd.prog 42 #[.slice p len cap] w (RetNat n w) := by
  have Hlt := Lib.hid hlt
  clear hlt
  go_enter Tryd.func42, Tryd.ntmps42
  go_wp2_with fail
  refine (nb _ (by go_grown)).mono ?_
  rintro e w1 ⟨b, k, m, rfl, hk, hm, ha, hs, hb1⟩
  have hk1 := bits_few hk Hlt.out
  have Hk := Lib.hid hk
  have Hm := Lib.hid hm
  clear hk hm
  go_wp2_with fail
  refine (from_of b _ m m k n _ ha Hm.out Hk.out hn (by have := Hm.out; omega)).mono ?_
  rintro e w2 ⟨v, rfl, hv, hb2⟩
  obtain ⟨xa, xp, xl, xc, rfl⟩ := hv.shape
  have z1 := hb1.size
  have z2 := hb2.size
  rw [World.size_alloc] at z1 hb1
  have vr := ((Var.new w w.heap.size (.int .u64 0) none 0 0 rfl).below hb1 (by omega)).below hb2 (by omega)
  have hB : Below w.heap.size w w2 := (Below.trans (by go_grown) (hb1.mono (by omega))).trans (hb2.mono (by omega))
  have c0 := vr.c0
  have c1 := vr.c1
  have f0 := vr.free 0
  have f1 := vr.free 1
  go_wp2
  exact bodyPost_var Tryd.results42 rfl rfl (vr.set _ _ _ _) (hv.two vr _ _) (below_two hB (Nat.le_refl _) _ _)
end Go.Proofs.YtjaepdjidfhamaaDoor
