/- Contract of nat.product (below 40 words) and of Nat.Mul. -/
import Derived.Test.YtjaepdjidfhamaaDoorProd
namespace Go.Proofs.YtjaepdjidfhamaaDoor
open Go.RowKit
set_option linter.unusedVariables false

set_option maxRecDepth 100000 in
set_option maxHeartbeats 1000000 in
theorem product_any (b1 t1 n1 c1 : Nat) (l1 : List Int) (b2 t2 n2 c2 : Nat) (l2 : List Int) (w : World) (ha1 : Arr w b1 t1 .u64 l1) (ha2 : Arr w b2 t2 .u64 l2) (h1 : n1 ≤ l1.length) (h2 : n2 ≤ l2.length) (hm1 : n1 < 40) (hm2 : n2 < 40) (hw1 : Words l1) (hw2 : Words l2) :
    Calls Tryd.prog 45 #[.slice (some ⟨b1, 0, none⟩) n1 c1, .slice (some ⟨b2, 0, none⟩) n2 c2] w fun e w' =>
      e = .returned (.slice (some ⟨w.heap.size, 0, none⟩) (n1 + n2) (n1 + n2)) ∧ (∃ lz, Arr w' w.heap.size 22 .u64 lz ∧ lz.length = n1 + n2 ∧ Words lz ∧ val lz = val (l1.take n1) * val (l2.take n2)) ∧ Below w.heap.size w w' := by
  by_cases hlt : n1 < n2
  · go_enter Tryd.func45, Tryd.ntmps45
    go_wp2_with (go_at_call 68; refine (pbw_any b2 t2 n2 c2 l2 b1 t1 n1 c1 l1 w ha2 ha1 h2 h1 (by omega) (by omega) hw2 hw1).mono ?_; rintro e w' ⟨rfl, ⟨lz, hz, ho⟩, hB⟩)
    go_ret
    rw [Nat.add_comm n2 n1]
    refine ⟨rfl, ⟨lz, hz, by rw [ho.1]; omega, ho.2.1, ?_⟩, hB⟩
    have h := ho.2.2.2
    rw [seg_all, seg_all, seg_all, List.take_of_length_le (by rw [ho.1]; omega)] at h
    rw [h, Int.mul_comm]
  · go_enter Tryd.func45, Tryd.ntmps45
    go_wp2_with (go_at_call 68; refine (pbw_any b1 t1 n1 c1 l1 b2 t2 n2 c2 l2 w ha1 ha2 h1 h2 (by omega) (by omega) hw1 hw2).mono ?_; rintro e w' ⟨rfl, ⟨lz, hz, ho⟩, hB⟩)
    go_ret
    refine ⟨rfl, ⟨lz, hz, ho.1, ho.2.1, ?_⟩, hB⟩
    have h := ho.2.2.2
    rw [seg_all, seg_all, seg_all, List.take_of_length_le (by rw [ho.1]; omega)] at h
    exact h
end Go.Proofs.YtjaepdjidfhamaaDoor
