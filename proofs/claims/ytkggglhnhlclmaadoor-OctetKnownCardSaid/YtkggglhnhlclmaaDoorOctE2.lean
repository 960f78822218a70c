/- Contracts of package octet: cutCount where there is no count. -/
import Derived.Test.YtkggglhnhlclmaaDoorOctD
namespace Go.Proofs.YtkggglhnhlclmaaDoor
open Go.RowKit
set_option linter.unusedVariables false

set_option maxRecDepth 100000 in
set_option maxHeartbeats 400000 in
/-- No end of a count: too short. -/
theorem cutCount_short (v : Value) (l : List Int) (hi : low l = l.length) (w : World) (h : Bs w v l) :
    Calls Tryd.prog 17 #[v] w fun e w' => e = .returned (.tuple #[.int .u64 0, .slice none 0 0, .int .i64 3]) ∧ Below w.heap.size w w' := by
  have ix := fun W (g : Bs W v l) => index_bs v l W g
  rw [lowAt_none hi] at ix
  have hb0 : Below w.heap.size w (w.alloc (.cells #[.int .u64 0] 30)) := by go_grown
  have nb0 : (w.alloc (.cells #[.int .u64 0] 30)).heap[w.heap.size]? = some (.cells #[.int .u64 0] 30 (0, 0)) := heap_new _ _ _ rfl
  have hg := h.below hb0
  refine (callsIn_wide (n := 5)).1 ?_
  refine callsIn_of_wp_marks Tryd.func17 rfl trivial ?_ rfl
  simp only [Tryd.ntmps17, List.size_toArray, List.length_cons, List.length_nil, Nat.reduceAdd, Nat.reduceSub, Array.replicate_succ, Array.replicate_zero, List.push_toArray, List.append_toArray, List.nil_append, List.cons_append]
  gi_wp2_with fail
  refine ⟨trivial, ?_⟩
  refine (callsIn_wide.2 (ix _ hg)).mono ?_
  rintro e w' ⟨rfl, rfl⟩
  gi_wp2_with fail
  have hc5 : (w.alloc (.cells #[.int .u64 0] 30)).cell? ⟨w.heap.size, 0, none⟩ = some (.int .u64 0) := by rw [cell_of_row _ _ 0 _ _ (0, 0) nb0]; rfl
  refine ⟨.tuple #[.int .u64 0, .slice none 0 0, .int .i64 3], ?_, rfl, hb0⟩
  simp [results, Tryd.results17, go_sem, hc5]
set_option maxRecDepth 100000 in
set_option maxHeartbeats 400000 in
/-- A last group of nought behind another: not as few as may be. -/
theorem cutCount_form (v : Value) (l : List Int) (i : Nat) (hi : low l = i) (hil : i < l.length) (i0 : 0 < i) (hz : l.getD i 0 = 0) (w : World) (h : Bs w v l) :
    Calls Tryd.prog 17 #[v] w fun e w' => e = .returned (.tuple #[.int .u64 0, .slice none 0 0, .int .i64 2]) ∧ Below w.heap.size w w' := by
  have ix := fun W (g : Bs W v l) => index_bs v l W g
  rw [lowAt_hit hi hil] at ix
  have hb0 : Below w.heap.size w (w.alloc (.cells #[.int .u64 0] 30)) := by go_grown
  have nb0 : (w.alloc (.cells #[.int .u64 0] 30)).heap[w.heap.size]? = some (.cells #[.int .u64 0] 30 (0, 0)) := heap_new _ _ _ rfl
  have hg := h.below hb0
  obtain ⟨p, c, rfl, h1, h2, ho, h4⟩ := h
  obtain ⟨g0, off, rfl, hc⟩ := h4 (by omega)
  have hx := (hb0.cell (p := ⟨g0, off + i, none⟩) (World.block_lt_of_cell? w ⟨g0, off + i, none⟩ (hc i hil))).trans (hc i hil)
  obtain ⟨len, hlen⟩ : ∃ len, l.length = len := ⟨_, rfl⟩
  rw [hlen] at ix hg hil h1 h2 ⊢
  obtain ⟨x, hxx⟩ : ∃ x, l.getD i 0 = x := ⟨_, rfl⟩
  rw [hxx] at hx hz
  have hil2 : (i : Int) < (len : Int) := by omega
  have i0 : (0 : Int) < (i : Int) := by omega
  clear hxx hc h4 hi hlen ho
  subst hz
  refine (callsIn_wide (n := 5)).1 ?_
  refine callsIn_of_wp_marks Tryd.func17 rfl trivial ?_ rfl
  simp only [Tryd.ntmps17, List.size_toArray, List.length_cons, List.length_nil, Nat.reduceAdd, Nat.reduceSub, Array.replicate_succ, Array.replicate_zero, List.push_toArray, List.append_toArray, List.nil_append, List.cons_append]
  gi_wp2_with fail
  refine ⟨trivial, ?_⟩
  refine (callsIn_wide.2 (ix _ hg)).mono ?_
  rintro e w' ⟨rfl, rfl⟩
  gi_wp2_with fail
  have hc5 : (w.alloc (.cells #[.int .u64 0] 30)).cell? ⟨w.heap.size, 0, none⟩ = some (.int .u64 0) := by rw [cell_of_row _ _ 0 _ _ (0, 0) nb0]; rfl
  refine ⟨.tuple #[.int .u64 0, .slice none 0 0, .int .i64 2], ?_, rfl, hb0⟩
  simp [results, Tryd.results17, go_sem, hc5]
set_option maxRecDepth 100000 in
set_option maxHeartbeats 400000 in
/-- More groups than a count has. -/
theorem cutCount_long (v : Value) (l : List Int) (i : Nat) (hi : low l = i) (hil : i < l.length) (i9 : 9 ≤ i) (hz : l.getD i 0 ≠ 0) (w : World) (h : Bs w v l) :
    Calls Tryd.prog 17 #[v] w fun e w' => e = .returned (.tuple #[.int .u64 0, .slice none 0 0, .int .i64 4]) ∧ Below w.heap.size w w' := by
  have ix := fun W (g : Bs W v l) => index_bs v l W g
  rw [lowAt_hit hi hil] at ix
  have hb0 : Below w.heap.size w (w.alloc (.cells #[.int .u64 0] 30)) := by go_grown
  have nb0 : (w.alloc (.cells #[.int .u64 0] 30)).heap[w.heap.size]? = some (.cells #[.int .u64 0] 30 (0, 0)) := heap_new _ _ _ rfl
  have hg := h.below hb0
  obtain ⟨p, c, rfl, h1, h2, ho, h4⟩ := h
  obtain ⟨g0, off, rfl, hc⟩ := h4 (by omega)
  have hx := (hb0.cell (p := ⟨g0, off + i, none⟩) (World.block_lt_of_cell? w ⟨g0, off + i, none⟩ (hc i hil))).trans (hc i hil)
  obtain ⟨len, hlen⟩ : ∃ len, l.length = len := ⟨_, rfl⟩
  rw [hlen] at ix hg hil h1 h2 ⊢
  obtain ⟨x, hxx⟩ : ∃ x, l.getD i 0 = x := ⟨_, rfl⟩
  rw [hxx] at hx hz
  have hil2 : (i : Int) < (len : Int) := by omega
  have i0 : (0 : Int) < (i : Int) := by omega
  clear hxx hc h4 hi hlen ho
  have xb : (x == 0) = false := by simpa using hz
  have i9' : (9 : Int) ≤ (i : Int) := by omega
  refine (callsIn_wide (n := 5)).1 ?_
  refine callsIn_of_wp_marks Tryd.func17 rfl trivial ?_ rfl
  simp only [Tryd.ntmps17, List.size_toArray, List.length_cons, List.length_nil, Nat.reduceAdd, Nat.reduceSub, Array.replicate_succ, Array.replicate_zero, List.push_toArray, List.append_toArray, List.nil_append, List.cons_append]
  gi_wp2_with fail
  refine ⟨trivial, ?_⟩
  refine (callsIn_wide.2 (ix _ hg)).mono ?_
  rintro e w' ⟨rfl, rfl⟩
  gi_wp2_with fail
  have hc5 : (w.alloc (.cells #[.int .u64 0] 30)).cell? ⟨w.heap.size, 0, none⟩ = some (.int .u64 0) := by rw [cell_of_row _ _ 0 _ _ (0, 0) nb0]; rfl
  refine ⟨.tuple #[.int .u64 0, .slice none 0 0, .int .i64 4], ?_, rfl, hb0⟩
  simp [results, Tryd.results17, go_sem, hc5]
end Go.Proofs.YtkggglhnhlclmaaDoor
