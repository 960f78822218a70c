/- octet's Writer: a new one, counts laid, what it has. -/
import Derived.Test.YtkggglhnhlclmaaDoorOctB
namespace Go.Proofs.YtkggglhnhlclmaaDoor
open Go.RowKit
set_option linter.unusedVariables false

/-- In block b stands a Writer that has the bytes xs, in memory from B on. -/
def WBox (w : World) (B b : Nat) (xs : List Int) : Prop := B ≤ b ∧ ∃ v, w.heap[b]? = some (.cells #[v] 67 (0, 0)) ∧ Own w B .u8 5 v xs
theorem wbox_new (w : World) : WBox (w.alloc (.cells #[.slice none 0 0] 67)) w.heap.size w.heap.size [] := ⟨Nat.le_refl _, _, heap_new _ _ _ rfl, own_nil _ _ _ _⟩
theorem WBox.below {w w' : World} {B b : Nat} {xs : List Int} (h : WBox w B b xs) (hb : Below w.heap.size w w') : WBox w' B b xs := by
  obtain ⟨h1, v, h2, h3⟩ := h
  exact ⟨h1, v, (hb.block b (Array.getElem?_eq_some_iff.1 h2).1).trans h2, h3.below hb⟩
theorem own_ne {w : World} {B b : Nat} {v : Value} {xs : List Int} {y : Value} {t : TypeId} (h : Own w B .u8 5 v xs) (hb : w.heap[b]? = some (.cells #[y] t (0, 0))) (hy : ∀ z, y ≠ .int .u8 z) : ∀ l c, v ≠ .slice (some ⟨b, 0, none⟩) l c := by
  rintro l c rfl
  rcases h with ⟨h, _⟩ | ⟨g, z, hv, ha, hB⟩
  · cases h
  · simp only [Value.slice.injEq, Option.some.injEq, Addr.mk.injEq] at hv
    obtain ⟨⟨rfl, _, _⟩, _, _⟩ := hv
    have e := hb.symm.trans ha
    simp only [Option.some.injEq, Obj.cells.injEq] at e
    have e1 : (#[y] : Array Value).toList = (xs ++ List.replicate z 0).map (Value.int .u8) := by rw [e.1]
    rcases hl : xs ++ List.replicate z 0 with _ | ⟨q, r⟩
    · rw [hl] at e1; simp at e1
    · rw [hl] at e1
      simp at e1
      exact hy q e1.1
theorem Own.no_u8 {w : World} {B : Nat} {v : Value} {xs : List Int} (h : Own w B .u8 5 v xs) : ∀ z, v ≠ .int .u8 z := by
  intro z e
  obtain ⟨p, c, hv⟩ := h.shape
  rw [hv] at e
  cases e
theorem Own.set {w : World} {B b : Nat} {v x : Value} {xs : List Int} {y : Value} {t : TypeId} (h : Own w B .u8 5 v xs) (hb : w.heap[b]? = some (.cells #[y] t (0, 0))) (hy : ∀ z, y ≠ .int .u8 z) : Own (w.setCell ⟨b, 0, none⟩ x) B .u8 5 v xs := by
  rcases h with h | ⟨g, z, hv, ha, hB⟩
  · exact .inl h
  · refine .inr ⟨g, z, hv, ha.other ?_ _, hB⟩
    rintro rfl
    have e := hb.symm.trans ha
    simp only [Option.some.injEq, Obj.cells.injEq] at e
    have e1 : (#[y] : Array Value).toList = (xs ++ List.replicate z 0).map (Value.int .u8) := by rw [e.1]
    rcases hl : xs ++ List.replicate z 0 with _ | ⟨q, r⟩
    · rw [hl] at e1; simp at e1
    · rw [hl] at e1
      simp at e1
      exact hy q e1.1
set_option maxRecDepth 100000 in
set_option maxHeartbeats 1000000 in
theorem writer_count_v (B b n : Nat) (hn : n ≤ 9223372036854775807) (v : Value) (xs : List Int) (hm : xs.length ≤ 4000000000) (w : World) (h1 : B ≤ b) (h2 : w.heap[b]? = some (.cells #[v] 67 (0, 0))) (h3 : Own w B .u8 5 v xs) : Calls Tryd.prog 26 #[.pointer (some ⟨b, 0, none⟩), .int .i64 n] w fun e w' => e = .returned (.tuple #[]) ∧ WBox w' B b (xs ++ cnt n) ∧ Below B w w' ∧ ∀ q, q < w.heap.size → q ≠ b → (∀ l c, v ≠ .slice (some ⟨q, 0, none⟩) l c) → w'.heap[q]? = w.heap[q]? := by
  have c0 : w.cell? ⟨b, 0, none⟩ = some v := by rw [cell_of_row w b 0 _ _ (0, 0) h2]; rfl
  have hlt := (Array.getElem?_eq_some_iff.1 h2).1
  have hmax : max (n : Int) 0 = (n : Int) := by omega
  have w64 : IntKind.u64.wrap (n : Int) = (n : Int) := by rw [IntKind.wrap_u64]; omega
  have q := appendCount_any n (by omega) v xs B w (by omega) h3 hm
  go_enter Tryd.func26, Tryd.ntmps26
  go_wp2_with fail
  refine q.mono ?_
  rintro e w1 ⟨v1, rfl, ho, hbl, hkp⟩
  have h2' := (hkp.2.1 b hlt (own_ne h3 h2 h3.no_u8)).trans h2
  have f0 : w1.frozen? ⟨b, 0, none⟩ = false := frozen_of_row w1 b 0 _ _ h2'
  have c1 : w1.cell? ⟨b, 0, none⟩ = some v := by rw [cell_of_row w1 b 0 _ _ (0, 0) h2']; rfl
  have hs := heap_setCell_same w1 b 0 _ _ v1 h2'
  have hset := ho.set (x := v1) h2' h3.no_u8
  have hbn := hbl.setCell (p := ⟨b, 0, none⟩) h1 v1
  have hs' : (w1.setCell ⟨b, 0, none⟩ v1).heap[b]? = some (.cells #[v1] 67 (0, 0)) := hs
  have hw : WBox (w1.setCell ⟨b, 0, none⟩ v1) B b (xs ++ cnt n) ∧ Below B w (w1.setCell ⟨b, 0, none⟩ v1) ∧ ∀ q, q < w.heap.size → q ≠ b → (∀ l c, v ≠ .slice (some ⟨q, 0, none⟩) l c) → (w1.setCell ⟨b, 0, none⟩ v1).heap[q]? = w.heap[q]? :=
    ⟨⟨h1, _, hs', hset⟩, hbn, fun q hq hqb hv => (heap_setCell_other w1 ⟨b, 0, none⟩ q v1 hqb).trans (hkp.2.1 q hq hv)⟩
  obtain ⟨p1, c1', rfl⟩ := ho.shape
  obtain ⟨L, hL⟩ : ∃ L, (xs ++ cnt n).length = L := ⟨_, rfl⟩
  rw [hL] at hw ⊢
  clear c0 q hs hs' hset hbn hkp ho
  go_wp2_with fail
  go_end0
  exact ⟨rfl, hw⟩
theorem writer_count (B b n : Nat) (hn : n ≤ 9223372036854775807) (xs : List Int) (hm : xs.length ≤ 4000000000) (w : World) (h : WBox w B b xs) : Calls Tryd.prog 26 #[.pointer (some ⟨b, 0, none⟩), .int .i64 n] w fun e w' => e = .returned (.tuple #[]) ∧ WBox w' B b (xs ++ cnt n) ∧ Below B w w' := by
  obtain ⟨h1, v, h2, h3⟩ := h
  exact (writer_count_v B b n hn v xs hm w h1 h2 h3).mono fun e w' ⟨a, b, c, _⟩ => ⟨a, b, c⟩
set_option maxRecDepth 100000 in
set_option maxHeartbeats 1000000 in
theorem writer_bytes (B b : Nat) (xs : List Int) (ho : Octs xs) (hm : xs.length ≤ 4000000000) (w : World) (h : WBox w B b xs) : Calls Tryd.prog 29 #[.pointer (some ⟨b, 0, none⟩)] w (RetFresh xs w) := by
  obtain ⟨h1, v, h2, h3⟩ := h
  have c0 : w.cell? ⟨b, 0, none⟩ = some v := by rw [cell_of_row w b 0 _ _ (0, 0) h2]; rfl
  have hb : Bs w v xs := by
    rcases h3 with ⟨rfl, rfl⟩ | ⟨g, z, rfl, ha, hb⟩
    · exact Bs.nil w
    · have := Bs.arr (w := w) (n := xs.length) (c := xs.length + z) ha (by simp) (by omega) (by omega) (by rw [List.take_left]; exact ho)
      rwa [List.take_left] at this
  have q := fresh_bs v xs hm w hb
  go_enter Tryd.func29, Tryd.ntmps29
  go_wp2_with fail
  refine q.mono ?_
  rintro e w1 ⟨p, z, rfl, r⟩
  go_wp2_with fail
  go_ret
  exact ⟨p, z, rfl, r⟩
set_option maxRecDepth 100000 in
set_option maxHeartbeats 1000000 in
theorem newWriter_any (w : World) : Calls Tryd.prog 25 #[] w fun e w' => e = .returned (.pointer (some ⟨w.heap.size, 0, none⟩)) ∧ w' = w.alloc (.cells #[.slice none 0 0] 67) := by
  go_enter Tryd.func25, Tryd.ntmps25
  go_wp2_with fail
  go_ret
  exact ⟨rfl, rfl⟩
theorem box3 (w : World) (x y z : Value) (t : TypeId) (b : Nat) (hb : b = w.heap.size) : (w.alloc (.cells #[x, y, z] t)).cell? ⟨b, 0, none⟩ = some x ∧ (w.alloc (.cells #[x, y, z] t)).cell? ⟨b, 1, none⟩ = some y ∧ (w.alloc (.cells #[x, y, z] t)).cell? ⟨b, 2, none⟩ = some z := by
  have h := heap_new w (.cells #[x, y, z] t) b hb
  exact ⟨by rw [cell_of_row _ b 0 _ t (0, 0) h]; rfl, by rw [cell_of_row _ b 1 _ t (0, 0) h]; rfl, by rw [cell_of_row _ b 2 _ t (0, 0) h]; rfl⟩
set_option maxRecDepth 100000 in
set_option maxHeartbeats 1000000 in
theorem whole_minus (w : World) : Calls Tryd.prog 28 #[.int .i64 (-1)] w fun e w' => e = .returned (.agg #[.bool true, .int .u64 1, .slice none 0 0]) ∧ Below w.heap.size w w' := by
  have hW : Below w.heap.size w (w.alloc (.cells #[.bool false, .int .u64 0, .slice none 0 0] 35)) := by go_grown
  have hN := heap_new w (.cells #[.bool false, .int .u64 0, .slice none 0 0] 35) w.heap.size rfl
  go_enter Tryd.func28, Tryd.ntmps28
  go_wp2_with fail
  rw [show IntKind.u64.wrap (-IntKind.u64.wrap (-1)) = 1 by decide]
  refine (of_any 1 _).mono ?_
  rintro e w1 ⟨rfl, hb⟩
  have h1 := (hb.block w.heap.size (by rw [World.size_alloc]; omega)).trans hN
  have f0 := frozen_of_row w1 w.heap.size 0 _ _ h1
  have f1 := frozen_of_row w1 w.heap.size 1 _ _ h1
  have f2 := frozen_of_row w1 w.heap.size 2 _ _ h1
  have c0 : w1.cell? ⟨w.heap.size, 0, none⟩ = some (.bool false) := by rw [cell_of_row w1 _ 0 _ _ (0, 0) h1]; rfl
  have c1 : w1.cell? ⟨w.heap.size, 1, none⟩ = some (.int .u64 0) := by rw [cell_of_row w1 _ 1 _ _ (0, 0) h1]; rfl
  have c2 : w1.cell? ⟨w.heap.size, 2, none⟩ = some (.slice none 0 0) := by rw [cell_of_row w1 _ 2 _ _ (0, 0) h1]; rfl
  have hBw := (((hW.trans (hb.mono hW.size)).setCell (p := ⟨w.heap.size, 0, none⟩) (Nat.le_refl _) (.bool true)).setCell (p := ⟨w.heap.size, 1, none⟩) (Nat.le_refl _) (.int .u64 1)).setCell (p := ⟨w.heap.size, 2, none⟩) (Nat.le_refl _) (.slice none 0 0)
  have g1 := heap_setCell_same w1 w.heap.size 0 _ _ (.bool true) h1
  have g2 := heap_setCell_same _ w.heap.size 1 _ _ (.int .u64 1) g1
  have g3 := heap_setCell_same _ w.heap.size 2 _ _ (.slice none 0 0) g2
  go_wp2_with fail
  exact bodyPost_ret (v := .agg #[.bool true, .int .u64 1, .slice none 0 0]) (results_cell_row Tryd.results28 _ _ w.heap.size _ _ (0, 0) _ rfl g3 Tryd.underlying35 rfl (by kernel_rfl)) rfl ⟨rfl, hBw⟩
set_option maxRecDepth 100000 in
set_option maxHeartbeats 1000000 in
theorem abs_any (b : Bool) (x : Int) (p : Option Addr) (l c : Nat) (w : World) : Calls Tryd.prog 36 #[.agg #[.bool b, .int .u64 x, .slice p l c]] w fun e w' => e = .returned (.agg #[.int .u64 x, .slice p l c]) ∧ Below w.heap.size w w' := by
  have g1 := heap_new (w.alloc (.cells #[.bool b, .int .u64 x, .slice p l c] 35)) (.cells #[.int .u64 x, .slice p l c] 33) (w.heap.size + 1) (by rw [World.size_alloc])
  go_enter Tryd.func36, Tryd.ntmps36
  go_wp2_with fail
  exact bodyPost_ret (v := .agg #[.int .u64 x, .slice p l c]) (results_cell_row Tryd.results36 _ _ (w.heap.size + 1) _ _ (0, 0) _ rfl g1 Tryd.underlying33 rfl (by kernel_rfl)) rfl ⟨rfl, by go_grown⟩
set_option maxRecDepth 100000 in
set_option maxHeartbeats 1000000 in
theorem sign_neg (x : Int) (p : Option Addr) (l c : Nat) (w : World) : Calls Tryd.prog 10 #[.agg #[.bool true, .int .u64 x, .slice p l c]] w fun e w' => e = .returned (.int .i64 (-1)) ∧ Below w.heap.size w w' := by
  go_enter Tryd.func10, Tryd.ntmps10
  go_wp2_with fail
  go_ret
  exact ⟨rfl, by go_grown⟩
end Go.Proofs.YtkggglhnhlclmaaDoor