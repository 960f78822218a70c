/- The document's sums, differences, products, order and bytes, said of numbers; Sub where what is taken away is more. -/
import Derived.Test.YtjoppmkknbpjbaaDoorRefAdd
import Derived.Test.YtjoppmkknbpjbaaDoorRingKit
import Derived.Test.YtjoppmkknbpjbaaDoorIs
namespace Go.Proofs.YtjoppmkknbpjbaaDoor
open Go.RowKit
set_option linter.unusedVariables false

theorem IsRef.num {w : World} {s : Value} {n : Int} (h : IsRef w s n) : IsNum w s n := by
  obtain ⟨b, t, len, cap, l, rfl, ha, h1, h2, h3, hw, hz, rfl⟩ := h
  exact isNum_arr ha h1 (by omega) hw hz
theorem num_len {w : World} {s : Value} {L : List Int} {K : Nat} (h : Limbed w s L) (hz : L ≠ [] → L.getD (L.length - 1) 0 ≠ 0) (hn : lval L < lpw K) : L.length ≤ K := by
  by_cases hc : L.length ≤ K
  · exact hc
  · have hne : L ≠ [] := by rintro rfl; simp at hc
    have h1 := lval_low h.limbs (len := L.length) (by omega) (Nat.le_refl _) (hz hne)
    rw [List.take_length] at h1
    have h3 := lpw_mono (a := K) (b := L.length - 1) (by omega)
    omega
theorem IsNum.shape {w : World} {s : Value} {n : Int} (h : IsNum w s n) : ∃ p l c, s = .slice p l c := by
  obtain ⟨L, h1, _⟩ := h
  obtain ⟨p, c, rfl⟩ := h1.shape
  exact ⟨p, _, c, rfl⟩
theorem sub_none (v1 v2 : Value) (n m : Int) (w : World) (h1 : IsNat w v1 n) (h2 : IsNat w v2 m) (hlt : n < m) :
    Calls Tryd.prog 6 #[v1, v2] w fun e w' => e = .returned (.tuple #[.agg #[.int .u64 0, .slice none 0 0], .bool false]) ∧ Below w.heap.size w w' := by
  obtain ⟨x1, p1, l1, c1, rfl⟩ := h1.shape
  obtain ⟨x2, p2, l2, c2, rfl⟩ := h2.shape
  have hcmp := fun w' (hb : Below w.heap.size w w') => cmp_any (.agg #[.int .u64 x1, .slice p1 l1 c1]) (.agg #[.int .u64 x2, .slice p2 l2 c2]) n m w' (h1.below hb) (h2.below hb)
  rw [cmpI_lt hlt] at hcmp
  go_enter Tryd.func6, Tryd.ntmps6
  go_wp2_with fail
  refine (hcmp _ (by go_grown)).mono ?_
  rintro e w2 ⟨rfl, hb2⟩
  obtain ⟨v0, v1, v2, hB2, hS⟩ := boxes3 hb2
  clear hcmp hb2
  have c20 := v2.c0
  have c21 := v2.c1
  have f20 := v2.free 0
  have f21 := v2.free 1
  go_wp2_with fail
  have v3 := v2.set (.int .u64 0) none 0 0
  refine bodyPost_ret (v := .tuple #[.agg #[.int .u64 0, .slice none 0 0], .bool false]) ?_ rfl ⟨rfl, below_two hB2 (by omega) _ _⟩
  simp [results, Tryd.results6, asAddr, run_loadVar_nat v3]
end Go.Proofs.YtjoppmkknbpjbaaDoor
