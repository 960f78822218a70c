/- octet: Reader. -/
import Derived.Test.YtkggglhnhlclmaaDoorOctO
import Derived.Test.YtkggglhnhlclmaaDoorOctE2
import Derived.Test.YtkggglhnhlclmaaDoorOctN
import Derived.Test.YtkggglhnhlclmaaDoorOctApp
namespace Go.Proofs.YtkggglhnhlclmaaDoor
open Go.RowKit
set_option linter.unusedVariables false

/-- A Reader is block b: what is left, whether it is bad. -/
def RBox (w : World) (b : Nat) (v : Value) (bad : Bool) : Prop := w.heap[b]? = some (.cells #[v, .bool bad] 48 (0, 0))
section
variable {w w' : World} {b : Nat} {v : Value} {bad : Bool}
theorem RBox.lt (h : RBox w b v bad) : b < w.heap.size := (Array.getElem?_eq_some_iff.1 h).1
theorem RBox.cell0 (h : RBox w b v bad) : w.cell? ⟨b, 0, none⟩ = some v := by rw [cell_of_row w b 0 _ _ (0, 0) h]; rfl
theorem RBox.cell1 (h : RBox w b v bad) : w.cell? ⟨b, 1, none⟩ = some (.bool bad) := by rw [cell_of_row w b 1 _ _ (0, 0) h]; rfl
theorem RBox.free (h : RBox w b v bad) (i : Nat) : w.frozen? ⟨b, i, none⟩ = false := frozen_of_row w b i _ _ h
theorem RBox.below {B : Nat} (h : RBox w b v bad) (hg : Below B w w') (hb : b < B) : RBox w' b v bad := (hg.block b hb).trans h
theorem RBox.set0 (h : RBox w b v bad) (u : Value) : RBox (w.setCell ⟨b, 0, none⟩ u) b u bad := heap_setCell_same w b 0 _ _ u h
theorem RBox.set1 (h : RBox w b v bad) (u : Bool) : RBox (w.setCell ⟨b, 1, none⟩ (.bool u)) b v u := heap_setCell_same w b 1 _ _ (.bool u) h
end
theorem grownBy_setnew {w w2 : World} {row : Option Nat} (h : w.grownBy w2 row) {q : Nat} (i : Nat) (hq : w.heap.size ≤ q) (v : Value) : w.grownBy (w2.setCell ⟨q, i, none⟩ v) row :=
  ⟨h.os, h.tape, h.output, Nat.le_trans h.size (by simp [World.setCell]), fun k hk hne => (heap_setCell_other w2 ⟨q, i, none⟩ k v (by show k ≠ q; omega)).trans (h.block k hk hne)⟩
set_option maxRecDepth 100000 in
set_option maxHeartbeats 1000000 in
theorem spoil_any (b : Nat) (v : Value) (bad : Bool) (w : World) (h : RBox w b v bad) : Calls Tryd.prog 22 #[.pointer (some ⟨b, 0, none⟩)] w fun e w' => e = .returned (.tuple #[]) ∧ RBox w' b (.slice none 0 0) true ∧ w.grownBy w' (some b) := by
  have c0 := h.cell0
  have c1 := h.cell1
  have f0 := h.free 0
  have f1 := h.free 1
  have h1 := h.set0 (.slice none 0 0)
  have h2 := h1.set1 true
  have d1 := h1.cell1
  have e1 := h1.free 1
  have hB2 := grownBy_trans (grownBy_set w b 0 (.slice none 0 0)) (grownBy_set (w.setCell ⟨b, 0, none⟩ (.slice none 0 0)) b 1 (.bool true))
  go_enter Tryd.func22, Tryd.ntmps22
  go_wp2_with fail
  refine bodyPost_end (results_none rfl _ _ _) rfl ?_
  exact ⟨rfl, h2, hB2⟩
set_option maxRecDepth 100000 in
set_option maxHeartbeats 1000000 in
theorem newReader_bs (v : Value) (l : List Int) (hl : l.length ≤ 4000000000) (w : World) (h : Bs w v l) : Calls Tryd.prog 6 #[v] w fun e w' => ∃ b v', e = .returned (.pointer (some ⟨b, 0, none⟩)) ∧ RBox w' b v' false ∧ Bs w' v' l ∧ w.heap.size ≤ b ∧ Below w.heap.size w w' := by
  go_enter Tryd.func6, Tryd.ntmps6
  go_wp2_with fail
  refine (fresh_bs v l hl _ h).mono ?_
  rintro e w1 ⟨p, z, rfl, hb, _, b1⟩
  have ba : Below w1.heap.size w1 (w1.alloc (.cells #[.slice p l.length l.length, .bool false] 48)) := by go_grown
  go_wp2_with fail
  go_ret
  exact ⟨w1.heap.size, _, rfl, heap_new w1 _ _ rfl, hb.below ba, b1.size, b1.trans (ba.mono b1.size)⟩
set_option maxRecDepth 100000 in
set_option maxHeartbeats 1000000 in
theorem count_one (b : Nat) (v : Value) (w : World) (h : RBox w b v false) (hv : Bs w v [1, 5]) : Calls Tryd.prog 21 #[.pointer (some ⟨b, 0, none⟩), .int .i64 9223372036854775807] w fun e w' => ∃ v', e = .returned (.int .i64 1) ∧ RBox w' b v' false ∧ w.grownBy w' (some b) := by
  have c0 := h.cell0
  have hlt := h.lt
  go_enter Tryd.func21, Tryd.ntmps21
  go_wp2_with fail
  refine (cutCount_ok v [1, 5] 0 (by decide +kernel) (by decide) (by decide) (.inl rfl) (by decide +kernel) w hv).mono ?_
  rintro e w1 ⟨⟨v2, rfl, hb2⟩, b1⟩
  rw [show grp (List.take (0 + 1) [1, 5]) = 1 by decide +kernel]
  obtain ⟨p2, c2, rfl⟩ := hb2.shape
  have h1 := h.below b1 hlt
  have d0 := h1.cell0
  have f0 := h1.free 0
  have hs := h1.set0 (.slice p2 (List.drop (0 + 1) [1, 5]).length c2)
  have hBw := grownBy_trans (grownBy_below b1 (Nat.le_refl _) (some b)) (grownBy_set w1 b 0 (.slice p2 (List.drop (0 + 1) [1, 5]).length c2))
  go_wp2_with fail
  go_ret
  exact ⟨_, rfl, hs, hBw⟩
set_option maxRecDepth 100000 in
set_option maxHeartbeats 1000000 in
theorem count_none (b : Nat) (p : Option Addr) (c : Nat) (w : World) (h : RBox w b (.slice p 0 c) true) : Calls Tryd.prog 21 #[.pointer (some ⟨b, 0, none⟩), .int .i64 9] w fun e w' => e = .returned (.int .i64 0) ∧ RBox w' b (.slice none 0 0) true ∧ w.grownBy w' (some b) := by
  have c0 := h.cell0
  have hlt := h.lt
  have hn : Bs w (.slice p 0 c) [] := ⟨p, c, rfl, Nat.zero_le _, by decide, (fun _ h => by cases h), fun h => absurd h (Nat.lt_irrefl 0)⟩
  go_enter Tryd.func21, Tryd.ntmps21
  go_wp2_with fail
  refine (cutCount_short _ [] rfl w hn).mono ?_
  rintro e w1 ⟨rfl, b1⟩
  have h1 := h.below b1 hlt
  go_wp2_with fail
  refine (spoil_any b _ _ w1 h1).mono ?_
  rintro e w2 ⟨rfl, h2, b2⟩
  go_wp2_with fail
  go_ret
  exact ⟨rfl, h2, grownBy_trans (grownBy_below b1 (Nat.le_refl _) (some b)) b2⟩
set_option maxRecDepth 100000 in
set_option maxHeartbeats 1000000 in
theorem rwhole_bad (b : Nat) (v : Value) (w : World) (h : RBox w b v false) (hv : Bs w v [1, 5]) : Calls Tryd.prog 7 #[.pointer (some ⟨b, 0, none⟩)] w fun e w' => e = .returned (.agg #[.bool false, .int .u64 0, .slice none 0 0]) ∧ RBox w' b (.slice none 0 0) true ∧ w.grownBy w' (some b) := by
  go_enter Tryd.func7, Tryd.ntmps7
  go_wp2_with fail
  have hlt := h.lt
  have ba : Below w.heap.size w (w.alloc (.cells #[.bool false, .int .u64 0, .slice none 0 0] 35)) := by go_grown
  have hN := heap_new w (.cells #[.bool false, .int .u64 0, .slice none 0 0] 35) w.heap.size rfl
  have hlN := (Array.getElem?_eq_some_iff.1 hN).1
  have hne : b ≠ w.heap.size := by omega
  refine (count_one b v _ (h.below ba hlt) (hv.below ba)).mono ?_
  rintro e w1 ⟨v1, rfl, h1, b1⟩
  go_wp2_with fail
  refine (spoil_any b _ _ w1 h1).mono ?_
  rintro e w2 ⟨rfl, h2, b2⟩
  have bb := grownBy_trans b1 b2
  have hN2 := (bb.block w.heap.size hlN (fun e => hne (Option.some.inj e).symm)).trans hN
  have c0 : w2.cell? ⟨w.heap.size, 0, none⟩ = some (.bool false) := by rw [cell_of_row w2 _ 0 _ _ (0, 0) hN2]; rfl
  have c1 : w2.cell? ⟨w.heap.size, 1, none⟩ = some (.int .u64 0) := by rw [cell_of_row w2 _ 1 _ _ (0, 0) hN2]; rfl
  have c2 : w2.cell? ⟨w.heap.size, 2, none⟩ = some (.slice none 0 0) := by rw [cell_of_row w2 _ 2 _ _ (0, 0) hN2]; rfl
  have f0 := frozen_of_row w2 w.heap.size 0 _ _ hN2
  have f1 := frozen_of_row w2 w.heap.size 1 _ _ hN2
  have f2 := frozen_of_row w2 w.heap.size 2 _ _ hN2
  have g1 := heap_setCell_same w2 w.heap.size 0 _ _ (.bool false) hN2
  have g2 := heap_setCell_same _ w.heap.size 1 _ _ (.int .u64 0) g1
  have g3 := heap_setCell_same _ w.heap.size 2 _ _ (.slice none 0 0) g2
  go_wp2_with fail
  have hr : RBox (((w2.setCell ⟨w.heap.size, 0, none⟩ (.bool false)).setCell ⟨w.heap.size, 1, none⟩ (.int .u64 0)).setCell ⟨w.heap.size, 2, none⟩ (.slice none 0 0)) b (.slice none 0 0) true :=
    (heap_setCell_other _ ⟨w.heap.size, 2, none⟩ b _ hne).trans ((heap_setCell_other _ ⟨w.heap.size, 1, none⟩ b _ hne).trans ((heap_setCell_other _ ⟨w.heap.size, 0, none⟩ b _ hne).trans h2))
  have hg := grownBy_setnew (grownBy_setnew (grownBy_setnew (grownBy_trans (grownBy_below ba (Nat.le_refl _) (some b)) bb) 0 (Nat.le_refl _) (.bool false)) 1 (Nat.le_refl _) (.int .u64 0)) 2 (Nat.le_refl _) (.slice none 0 0)
  exact bodyPost_ret (v := .agg #[.bool false, .int .u64 0, .slice none 0 0]) (results_cell_row Tryd.results7 _ _ w.heap.size _ _ (0, 0) _ rfl g3 Tryd.underlying35 rfl (by kernel_rfl)) rfl ⟨rfl, hr, hg⟩
set_option maxRecDepth 100000 in
theorem bad_any (b : Nat) (v : Value) (bad : Bool) (w : World) (h : RBox w b v bad) : Calls Tryd.prog 11 #[.pointer (some ⟨b, 0, none⟩)] w fun e w' => e = .returned (.bool bad) ∧ w = w' := by
  have c1 := h.cell1
  go_enter Tryd.func11, Tryd.ntmps11
  go_wp2_with fail
  go_ret
  exact ⟨rfl, rfl⟩
set_option maxRecDepth 100000 in
theorem left_any (b : Nat) (p : Option Addr) (l c : Nat) (bad : Bool) (w : World) (h : RBox w b (.slice p l c) bad) : Calls Tryd.prog 12 #[.pointer (some ⟨b, 0, none⟩)] w fun e w' => e = .returned (.int .i64 l) ∧ w = w' := by
  have c0 := h.cell0
  go_enter Tryd.func12, Tryd.ntmps12
  go_wp2_with fail
  go_ret
  exact ⟨rfl, rfl⟩
set_option maxRecDepth 100000 in
set_option maxHeartbeats 1000000 in
theorem take_one (b : Nat) (w : World) (h : RBox w b (.slice none 0 0) true) : Calls Tryd.prog 31 #[.pointer (some ⟨b, 0, none⟩), .int .i64 1] w fun e w' => e = .returned (.slice none 0 0) ∧ RBox w' b (.slice none 0 0) true ∧ w.grownBy w' (some b) := by
  have c0 := h.cell0
  go_enter Tryd.func31, Tryd.ntmps31
  go_wp2_with fail
  refine (spoil_any b _ _ w h).mono ?_
  rintro e w2 ⟨rfl, h2, b2⟩
  go_wp2_with fail
  go_ret
  exact ⟨rfl, h2, b2⟩
set_option maxRecDepth 100000 in
set_option maxHeartbeats 1000000 in
theorem bool_none (b : Nat) (w : World) (h : RBox w b (.slice none 0 0) true) : Calls Tryd.prog 13 #[.pointer (some ⟨b, 0, none⟩)] w fun e w' => e = .returned (.bool false) ∧ RBox w' b (.slice none 0 0) true ∧ w.grownBy w' (some b) := by
  go_enter Tryd.func13, Tryd.ntmps13
  go_wp2_with fail
  refine (take_one b w h).mono ?_
  rintro e w1 ⟨rfl, h1, b1⟩
  go_wp2_with fail
  refine (spoil_any b _ _ w1 h1).mono ?_
  rintro e w2 ⟨rfl, h2, b2⟩
  go_wp2_with fail
  go_ret
  exact ⟨rfl, h2, grownBy_trans b1 b2⟩
set_option maxRecDepth 100000 in
set_option maxHeartbeats 1000000 in
theorem take_zero (b : Nat) (w : World) (h : RBox w b (.slice none 0 0) true) : Calls Tryd.prog 31 #[.pointer (some ⟨b, 0, none⟩), .int .i64 0] w fun e w' => ∃ v1, e = .returned v1 ∧ Bs w' v1 [] ∧ w.grownBy w' (some b) := by
  have c0 := h.cell0
  have hlt := h.lt
  go_enter Tryd.func31, Tryd.ntmps31
  go_wp2_with fail
  refine (cut_bs (.slice none 0 0) [] 0 (Nat.le_refl _) w (Bs.nil w)).mono ?_
  rintro e w1 ⟨⟨v1, v2, rfl, k1, k2⟩, b1⟩
  have h1 := h.below b1 hlt
  have d0 := h1.cell0
  have f0 := h1.free 0
  obtain ⟨p2, c2, rfl⟩ := k2.shape
  have k1' : ∀ u, Bs (w1.setCell ⟨b, 0, none⟩ u) v1 [] := fun u => by
    obtain ⟨p, c, hv, q1, q2, q3, q4⟩ := k1.below b1
    exact ⟨p, c, hv, q1, q2, q3, fun h0 => absurd h0 (Nat.lt_irrefl 0)⟩
  have hg := grownBy_trans (grownBy_below b1 (Nat.le_refl _) (some b)) (grownBy_set w1 b 0 (.slice p2 (List.drop 0 ([] : List Int)).length c2))
  obtain ⟨p1, c1, rfl⟩ := (k1' (.bool true)).shape
  go_wp2_with fail
  go_ret
  exact ⟨_, rfl, k1' _, hg⟩
set_option maxRecDepth 100000 in
set_option maxHeartbeats 1000000 in
theorem text_none (b : Nat) (w : World) (h : RBox w b (.slice none 0 0) true) : Calls Tryd.prog 14 #[.pointer (some ⟨b, 0, none⟩), .int .i64 9] w fun e w' => e = .returned (.string ByteArray.empty) ∧ w.grownBy w' (some b) := by
  go_enter Tryd.func14, Tryd.ntmps14
  go_wp2_with fail
  refine (count_none b none 0 w h).mono ?_
  rintro e w1 ⟨rfl, h1, b1⟩
  go_wp2_with fail
  refine (take_zero b w1 h1).mono ?_
  rintro e w2 ⟨v1, rfl, k1, b2⟩
  have hs := str_bs' k1
  have hn : strOfNums [] = ByteArray.empty := by simp [strOfNums]; rfl
  rw [hn] at hs
  go_wp2_with fail
  go_ret
  exact ⟨rfl, grownBy_trans b1 b2⟩
end Go.Proofs.YtkggglhnhlclmaaDoor
