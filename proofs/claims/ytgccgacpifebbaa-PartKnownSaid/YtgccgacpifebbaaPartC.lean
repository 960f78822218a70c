/- part: Boot, by the library's sort. -/
import Derived.Test.YtgccgacpifebbaaPartB
import Derived.Test.YtgccgacpifebbaaShelf
namespace Go.Proofs.Ytgccgacpifebbaa
open Go.RowKit
set_option linter.unusedVariables false

/-- A list in its order. -/
def srt (l : List Int) : List Int := l.mergeSort fun x y => decide (x ≤ y)
theorem srt_length (l : List Int) : (srt l).length = l.length := List.length_mergeSort _
theorem srt_perm (l : List Int) : (srt l).Perm l := List.mergeSort_perm _ _
theorem srt_mono (l : List Int) (i j : Nat) (hij : i < j) (hj : j < l.length) : (srt l).getD i 0 ≤ (srt l).getD j 0 := by
  have hp : (srt l).Pairwise fun x y => decide (x ≤ y) = true := List.pairwise_mergeSort (fun a b c h1 h2 => by simp at *; omega) (fun a b => by simp; omega) l
  have hl := srt_length l
  have := List.pairwise_iff_getElem.1 hp i j (by omega) (by omega) hij
  rw [List.getD_eq_getElem?_getD, List.getD_eq_getElem?_getD, List.getElem?_eq_getElem (by omega), List.getElem?_eq_getElem (by omega)]
  simpa using this
open Go.Sort in
theorem Arr.holds {w : World} {q : Nat} {l : List Int} (h : Arr w q 3 .i64 l) (n : Nat) (hn : n ≤ l.length) : Holds (Value.int .i64) w q 0 (l.take n).toArray := by
  intro j hj
  have hj2 : j < n ∧ j < l.length := by
    have : j < min n l.length := by simpa using hj
    omega
  rw [Nat.zero_add]
  refine ⟨?_, h.free j⟩
  rw [h.cell j hj2.2, getElem!_pos _ j hj]
  simp [List.getD_eq_getElem?_getD, List.getElem?_eq_getElem hj2.2]
open Go.Sort in
theorem Arr.sorted {w : World} {q n : Nat} {l : List Int} {os : Array Obj} (h : Arr w q 3 .i64 l) : Arr (grow (putRow (Value.int .i64) (Sort.ahead w n) q 0 (srt l).toArray) os) q 3 .i64 (srt l) := by
  have hlt : q < w.heap.size := h.lt
  unfold Arr
  rw [heap_grow_old _ _ (by simpa [putRow, mapBlock, Sort.ahead] using hlt)]
  have h0 : (Sort.ahead w n).heap[q]? = some (.cells (l.map (Value.int .i64)).toArray 3 (0, 0)) := h
  show ((Sort.ahead w n).heap.modify q _)[q]? = _
  rw [Array.getElem?_modify, h0]
  simp only [if_true, Option.map_some, onCells]
  congr 2
  apply Array.ext
  · simp [putCells, srt_length]
  · intro i h1 h2
    have hi : i < (srt l).length := by simpa using h2
    simp only [putCells, Array.getElem_mapIdx]
    rw [if_pos ⟨Nat.zero_le _, by simpa using hi⟩, getElem!_pos _ _ (by simpa using hi)]
    simp
open Go.Sort in
theorem sort_ints (q c : Nat) (l : List Int) (n : Nat) (hn : l.length = n) (hl : n ≤ 4294967296) (w : World) (h : Arr w q 3 .i64 l) :
    Calls Try.prog 27 #[.slice (some ⟨q, 0, none⟩) n c] w fun e w' => e = .returned (.tuple #[]) ∧ Arr w' q 3 .i64 (srt l) ∧ w.grownBy w' (some q) := by
  subst hn
  have hh := h.holds l.length (Nat.le_refl _)
  rw [List.take_length] at hh
  refine (Try.slices_Sort_int q 0 c l w hh h.lt (by omega)).mono ?_
  rintro e w' ⟨he, n, os, rfl⟩
  refine ⟨he, h.sorted, ?_⟩
  have hlt := h.lt
  refine ⟨rfl, rfl, rfl, by simp [grow, putRow, mapBlock, Sort.ahead], fun k hk hne => ?_⟩
  rw [heap_grow_old _ _ (by simpa [putRow, mapBlock, Sort.ahead] using hk)]
  show ((Sort.ahead w n).heap.modify q _)[k]? = _
  rw [Array.getElem?_modify, if_neg (fun e => hne (by rw [e]))]
  rfl
set_option maxRecDepth 100000 in
theorem boot_any (b n : Nat) (s : Int) (h1 : 1 ≤ n) (h2 : n ≤ 300) (w : World) (h : DBox w b s) :
    Calls Try.prog 13 #[.int .i64 n, .pointer (some ⟨b, 0, none⟩)] w fun e w' => ∃ q m t v2, Draws n m s t ∧ m.length = n ∧ e = .returned (.tuple #[.slice (some ⟨q, 0, none⟩) n n, v2]) ∧ Arr w' q 3 .i64 (srt m) ∧ Own w' w.heap.size .i64 3 v2 (restL n (srt m)) ∧ w.heap.size ≤ q ∧ DBox w' b t ∧ w.grownBy w' (some b) := by
  have g1 : ¬ (n : Int) < 1 := by omega
  have g2 : ¬ (300 : Int) < (n : Int) := by omega
  have lb := h.lt
  go_enter Try.func13, Try.ntmps13
  go_wp2_with fail
  refine (draw_pos b n s n (by omega) h1 (by omega) w h).mono ?_
  rintro e w1 ⟨v, m, t, hd, rfl, hm, hi, hb1, hg1⟩
  rcases hi with ⟨_, e0⟩ | ⟨q, rfl, ha, hq⟩
  · rw [e0] at hm; simp at hm; omega
  rw [hm]
  have hs1 := hg1.size
  go_wp2_with fail
  refine (sort_ints q n m n hm (by omega) w1 ha).mono ?_
  rintro e w2 ⟨rfl, ha2, hg2⟩
  have hb2 := hb1.grown hg2 (by simp; omega)
  have hs2 := hg2.size
  have hsl : (srt m).length = n := by rw [srt_length, hm]
  go_wp2_with fail
  refine (rest_any n w.heap.size h1 h2 _ (srt m) (by omega) w2 (ha2.rd hsl hq)).mono ?_
  rintro e w3 ⟨v', rfl, hown, hbel⟩
  go_wp2_with fail
  go_ret2
  refine ⟨q, m, t, v', hd, hm, rfl, ha2.below hbel ha2.lt, ?_, hq, hb2.below hbel hb2.lt, ?_⟩
  · rcases hown with h | ⟨q', z, hv, ha, hq'⟩
    · exact .inl h
    · exact .inr ⟨q', z, hv, ha, by omega⟩
  · have hg3 : w.grownBy w2 (some b) := ⟨hg2.os.trans hg1.os, hg2.tape.trans hg1.tape, hg2.output.trans hg1.output, by omega, fun k hk hne => (hg2.block k (by omega) (by simp; omega)).trans (hg1.block k hk hne)⟩
    exact grownBy_trans hg3 (below_grown hbel _)
end Go.Proofs.Ytgccgacpifebbaa
