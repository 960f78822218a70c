/- part: Halves; what is refused. -/
import Derived.Test.YtgccgacpifebbaaPartC
import Derived.OwnWalk
import Derived.Lib.OwnBridge
namespace Go.Proofs.Ytgccgacpifebbaa
open Go.RowKit
set_option linter.unusedVariables false

theorem mayFold_any (n k : Int) (w : World) : Calls Try.prog 28 #[.int .i64 n, .int .i64 k] w fun e w' => e = .returned (.bool (decide (2 ≤ k) && (decide (k ≤ n) && decide (n ≤ 300)))) ∧ w = w' := by
  by_cases h1 : 2 ≤ k
  · by_cases h2 : k ≤ n
    · by_cases h3 : n ≤ 300
      · go_enter Try.func28, Try.ntmps28
        go_wp2_with fail
        go_ret
        exact ⟨by simp [h1, h2, h3], rfl⟩
      · go_enter Try.func28, Try.ntmps28
        go_wp2_with fail
        go_ret
        exact ⟨by simp [h3], rfl⟩
    · go_enter Try.func28, Try.ntmps28
      go_wp2_with fail
      go_ret
      exact ⟨by rw [decide_eq_false (p := k ≤ n) (by omega)]; simp, rfl⟩
  · go_enter Try.func28, Try.ntmps28
    go_wp2_with fail
    go_ret
    exact ⟨by rw [decide_eq_false (p := 2 ≤ k) (by omega)]; simp, rfl⟩
theorem folds_arg (n k : Int) (h : (decide (2 ≤ k) && (decide (k ≤ n) && decide (n ≤ 300))) = false) (v : Value) (w : World) : Calls Try.prog 11 #[.int .i64 n, .int .i64 k, v] w fun e w' => e = .returned (.tuple #[.slice none 0 0, .int .i64 1]) ∧ w = w' := by
  have hq := mayFold_any n k w
  rw [h] at hq
  go_enter Try.func11, Try.ntmps11
  go_wp2_with fail
  refine hq.mono ?_
  rintro e w1 ⟨rfl, rfl⟩
  go_wp2_with fail
  go_ret2
  exact ⟨rfl, rfl⟩
theorem halves_arg (n k : Int) (h : k < 0 ∨ n < k ∨ 300 < n) (v : Value) (w : World) : Calls Try.prog 10 #[.int .i64 n, .int .i64 k, v] w fun e w' => e = .returned (.tuple #[.slice none 0 0, .slice none 0 0, .int .i64 1]) ∧ w = w' := by
  by_cases h1 : k < 0
  · go_enter Try.func10, Try.ntmps10
    go_wp2_with fail
    go_ret3
    exact ⟨rfl, rfl⟩
  · by_cases h2 : n < k
    · go_enter Try.func10, Try.ntmps10
      go_wp2_with fail
      go_ret3
      exact ⟨rfl, rfl⟩
    · have h3 : 300 < n := by omega
      go_enter Try.func10, Try.ntmps10
      go_wp2_with fail
      go_ret3
      exact ⟨rfl, rfl⟩
theorem boot_arg (n : Int) (h : n < 1 ∨ 300 < n) (v : Value) (w : World) : Calls Try.prog 13 #[.int .i64 n, v] w fun e w' => e = .returned (.tuple #[.slice none 0 0, .slice none 0 0]) ∧ w = w' := by
  by_cases h1 : n < 1
  · go_enter Try.func13, Try.ntmps13
    go_wp2_with fail
    go_ret2
    exact ⟨rfl, rfl⟩
  · have h3 : 300 < n := by omega
    go_enter Try.func13, Try.ntmps13
    go_wp2_with fail
    go_ret2
    exact ⟨rfl, rfl⟩
theorem rest_arg (n : Int) (h : n < 1 ∨ 300 < n) (v : Value) (w : World) : Calls Try.prog 15 #[.int .i64 n, v] w fun e w' => e = .returned (.slice none 0 0) ∧ w = w' := by
  by_cases h1 : n < 1
  · go_enter Try.func15, Try.ntmps15
    go_wp2_with fail
    go_ret
    exact ⟨rfl, rfl⟩
  · have h3 : 300 < n := by omega
    go_enter Try.func15, Try.ntmps15
    go_wp2_with fail
    go_ret
    exact ⟨rfl, rfl⟩
/-- No class. -/
def noClass (x : Int) : Bool := decide (x < 0) || decide (12 ≤ x)
theorem noClass_any (x : Int) (w : World) : Calls Try.prog 31 #[.int .i64 x] w fun e w' => e = .returned (.bool (noClass x)) ∧ w = w' := by
  unfold noClass
  by_cases h1 : x < 0
  · go_enter Try.func31, Try.ntmps31
    go_wp2_with fail
    go_ret
    exact ⟨by simp [h1], rfl⟩
  · go_enter Try.func31, Try.ntmps31
    go_wp2_with fail
    go_ret
    exact ⟨by rw [decide_eq_false (p := x < 0) (by omega)]; simp, rfl⟩
set_option maxRecDepth 100000 in
theorem indexFunc_any (v : Value) (l : List Int) (B : Nat) (w : World) (h : Rd w B v l) (hl : l.length ≤ 4294967296) :
    Calls Try.prog 42 #[v, .func (Fn.func 31) #[] #[]] w fun e w' => (∃ i : Int, e = .returned (.int .i64 i) ∧ (0 ≤ i ↔ l.any noClass = true)) ∧ ∃ m, w' = w.drewN m := by
  obtain ⟨p, cap, rfl, c1⟩ := h
  obtain ⟨n, hn⟩ : ∃ n, l.length = n := ⟨_, rfl⟩
  rw [hn] at c1 hl ⊢
  go_enter Try.func42, Try.ntmps42
  go_wp2_with fail
  have Hn := Lib.hid hn
  clear hn
  go_loopg [8] n (fun g iv wr => ∃ (k m : Nat), g = n - k ∧ k ≤ n ∧ iv = .int .i64 k ∧ wr = w.drewN m ∧ (l.take k).any noClass = false)
  case atStart => exact ⟨0, 0, rfl, Nat.zero_le _, rfl, rfl, by simp⟩
  case round =>
    obtain ⟨k, m, hg, hk, rfl, rfl, hno⟩ := hrel
    have Hg := Lib.hid hg
    clear hg
    by_cases hlt : k < n
    · obtain ⟨q1, rfl, _, _, d1⟩ := c1 (by omega)
      have e1 := d1 k hlt
      have hs := take_snoc l k 0 (by have := Hn.out; omega)
      obtain ⟨y, hy⟩ : ∃ y, l.getD k 0 = y := ⟨_, rfl⟩
      rw [hy] at e1 hs
      clear d1 c1 hy
      have Hs := Lib.hid hs
      have Hno := Lib.hid hno
      clear hs hno
      go_wp2_with fail
      refine (noClass_any y _).mono ?_
      rintro e w2 ⟨rfl, rfl⟩
      cases hnc : noClass y
      · go_wp2_with fail
        go_roundg (n - (k + 1))
        case measure => have := Hg.out; omega
        case rel => exact ⟨k + 1, m, rfl, by omega, by go_num, rfl, by rw [Hs.out, List.any_append, Hno.out]; simp [hnc]⟩
      · go_wp2_with fail
        go_ret
        refine ⟨⟨k, rfl, ⟨fun _ => ?_, fun _ => by omega⟩⟩, m, rfl⟩
        have e2 : l.any noClass = ((l.take (k + 1)).any noClass || (l.drop (k + 1)).any noClass) := by rw [← List.any_append, List.take_append_drop]
        rw [e2, Hs.out, List.any_append]
        simp [hnc]
    · obtain rfl : k = n := by omega
      rw [List.take_of_length_le (by have := Hn.out; omega)] at hno
      clear c1
      go_wp2_with fail
      go_ret
      exact ⟨⟨-1, rfl, by simp [hno]⟩, m, rfl⟩
theorem containsFunc_any (v : Value) (l : List Int) (B : Nat) (w : World) (h : Rd w B v l) (hl : l.length ≤ 4294967296) :
    Calls Try.prog 30 #[v, .func (Fn.func 31) #[] #[]] w fun e w' => e = .returned (.bool (l.any noClass)) ∧ ∃ m, w' = w.drewN m := by
  have hi := indexFunc_any v l B w h hl
  obtain ⟨p, c, rfl⟩ := h.shape
  clear h
  go_enter Try.func30, Try.ntmps30
  go_wp2_with fail
  refine hi.mono ?_
  rintro e w1 ⟨⟨i, rfl, hiff⟩, m, rfl⟩
  have e1 : l.any noClass = decide (0 ≤ i) := by
    cases h : l.any noClass
    · rw [h] at hiff; simp at hiff; symm; simp; omega
    · rw [h] at hiff; simp at hiff; symm; simp; omega
  have E1 := Lib.hid e1
  clear hiff e1
  go_wp2_with fail
  go_ret
  exact ⟨by rw [E1.out]; rfl, m, rfl⟩
set_option maxRecDepth 100000 in
theorem even_arg (v : Value) (l : List Int) (k : Int) (B : Nat) (u : Value) (w : World) (h : Rd w B v l) (hl : l.length ≤ 4294967296)
    (hbad : (decide (2 ≤ k) && (decide (k ≤ (l.length : Int)) && decide ((l.length : Int) ≤ 300))) = false ∨ l.any noClass = true) :
    Calls Try.prog 12 #[v, .int .i64 k, u] w fun e w' => e = .returned (.tuple #[.slice none 0 0, .int .i64 1]) ∧ Below w.heap.size w w' := by
  obtain ⟨p, c, rfl⟩ := h.shape
  obtain ⟨b, hb⟩ : ∃ b, (decide (2 ≤ k) && (decide (k ≤ (l.length : Int)) && decide ((l.length : Int) ≤ 300))) = b := ⟨_, rfl⟩
  have hq := fun w => mayFold_any (l.length : Int) k w
  rw [hb] at hq hbad
  clear hb
  have hb0 : Below w.heap.size w (w.alloc (.cells #[.slice p l.length c] 27)) := by go_grown
  have hc0 := containsFunc_any _ l B _ (h.below hb0) hl
  have hcell : (w.alloc (.cells #[.slice p l.length c] 27)).cell? ⟨w.heap.size, 0, none⟩ = some (.slice p l.length c) := by rw [cell_of_row _ _ 0 _ _ (0, 0) (heap_alloc_new w _)]; rfl
  go_enter Try.func12, Try.ntmps12
  go_wp2_with fail
  generalize w.alloc (.cells #[.slice p l.length c] 27) = w1 at hb0 hc0 hcell ⊢
  refine (hq w1).mono ?_
  rintro e w2 ⟨rfl, rfl⟩
  clear hq
  cases b
  · clear hc0
    go_wp2_with fail
    go_ret2
    exact ⟨rfl, hb0⟩
  · have hany : l.any noClass = true := by simpa using hbad
    rw [hany] at hc0
    go_wp2_with fail
    refine hc0.mono ?_
    rintro e w2 ⟨rfl, m, rfl⟩
    have hb1 := below_drewN hb0 m
    generalize w1.drewN m = w2 at hb1 ⊢
    go_wp2_with fail
    go_ret2
    exact ⟨rfl, hb1⟩
open Go.Sort in
/-- The library's sort of a slice that its holder has for itself. -/
theorem sort_holds (q c n : Nat) (zs : List Int) (hn : zs.length = n) (hl : n ≤ 4294967296) (w : World) (hH : Holds (Value.int .i64) w q 0 zs.toArray) (hlt : q < w.heap.size) (B : Nat) (hB : B ≤ q) :
    Calls Try.prog 27 #[.slice (some ⟨q, 0, none⟩) n c] w fun e w' => e = .returned (.tuple #[]) ∧ Rd w' B (.slice (some ⟨q, 0, none⟩) n c) (srt zs) ∧ w.grownBy w' (some q) := by
  subst hn
  refine (Try.slices_Sort_int q 0 c zs w hH hlt (by omega)).mono ?_
  rintro e w' ⟨he, n, os, rfl⟩
  refine ⟨he, ⟨_, c, by rw [srt_length], fun _ => ⟨q, rfl, hB, by simp [grow, putRow, mapBlock, Sort.ahead]; omega, fun j hj => ?_⟩⟩, ?_⟩
  · have h2 : Holds (Value.int .i64) (grow (putRow (Value.int .i64) (Sort.ahead w n) q 0 (srt zs).toArray) os) q 0 (srt zs).toArray :=
      holds_grow _ _ os q 0 _ (by simpa [putRow, mapBlock, Sort.ahead] using hlt) (holds_putRow _ _ q 0 _ _ (holds_ahead _ w n q 0 _ hH) (by simp [srt_length]))
    have h3 := (h2 j (by simpa using hj)).1
    rw [Nat.zero_add] at h3
    refine h3.trans ?_
    rw [getElem!_pos _ j (by simpa using hj)]
    simp [List.getD_eq_getElem?_getD, List.getElem?_eq_getElem hj]
  · refine ⟨rfl, rfl, rfl, by simp [grow, putRow, mapBlock, Sort.ahead], fun k hk hne => ?_⟩
    rw [heap_grow_old _ _ (by simpa [putRow, mapBlock, Sort.ahead] using hk)]
    show ((Sort.ahead w n).heap.modify q _)[k]? = _
    rw [Array.getElem?_modify, if_neg (fun e => hne (by rw [e]))]
    rfl
set_option maxRecDepth 100000 in
set_option maxHeartbeats 1000000 in
theorem halves_pos (b n k : Nat) (s : Int) (h1 : 1 ≤ k) (hk : k ≤ n) (h2 : n ≤ 300) (w : World) (h : DBox w b s) :
    Calls Try.prog 10 #[.int .i64 n, .int .i64 k, .pointer (some ⟨b, 0, none⟩)] w fun e w' => ∃ l t v1 v2, Mixed (n - 1) (upto n n) s l t ∧ l.length = n ∧ e = .returned (.tuple #[v1, v2, .int .i64 0]) ∧ Rd w' w.heap.size v1 (restL n (srt (l.take k))) ∧ Rd w' w.heap.size v2 (srt (l.take k)) ∧ DBox w' b t ∧ w.grownBy w' (some b) := by
  have lb := h.lt
  have g1 : ¬ (k : Int) < 0 := by omega
  have g2 : ¬ (n : Int) < (k : Int) := by omega
  have g3 : ¬ (300 : Int) < (n : Int) := by omega
  go_enter Try.func10, Try.ntmps10
  go_wp2_with fail
  refine (order_any b n s (by omega) (by omega) w h).mono ?_
  rintro e w1 ⟨q, l, t, hm, rfl, hl, ha, hq, hd1, hg1⟩
  have hs1 := hg1.size
  have hclone := Try.slices_Clone_int q 0 k n l w1 (by omega) (by omega) (fun j hj => by rw [Nat.zero_add]; exact ha.cell j hj)
  go_wp2_with fail
  refine hclone.mono ?_
  rintro e w2 ⟨v1, rfl, hown, hnn, hbel⟩
  obtain ⟨g, cap, rfl, hbg, hgl, hncap, hcm, hlen, hH⟩ := Lib.holds_of_ownsRow hown hnn
  have hs2 := hbel.size
  have hd2 := hd1.below hbel hd1.lt
  clear hown hclone
  go_wp2_with fail
  refine (sort_holds g cap k (l.take k) hlen (by omega) w2 hH hgl w.heap.size (by omega)).mono ?_
  rintro e w3 ⟨rfl, hr3, hg3⟩
  have hs3 := hg3.size
  have hd3 := hd2.grown hg3 (by simp; have := hd1.lt; omega)
  have hsl : (srt (l.take k)).length = k := by rw [srt_length, hlen]
  go_wp2_with fail
  refine (rest_any n w.heap.size (by omega) h2 _ (srt (l.take k)) (by omega) w3 hr3).mono ?_
  rintro e w4 ⟨v', rfl, hown4, hb4⟩
  go_wp2_with fail
  go_ret3
  refine ⟨l, t, v', _, hm, hl, rfl, ?_, hr3.below hb4, hd3.below hb4 hd3.lt, ?_⟩
  · rcases hown4 with h | ⟨q', z, hv, ha, hq'⟩
    · exact (show Own w4 w.heap.size .i64 3 v' _ from .inl h).rd
    · exact (show Own w4 w.heap.size .i64 3 v' _ from .inr ⟨q', z, hv, ha, by omega⟩).rd
  · have hx : w.grownBy w3 (some b) := ⟨hg3.os.trans (hbel.os.trans hg1.os), hg3.tape.trans (hbel.tape.trans hg1.tape), hg3.output.trans (hbel.output.trans hg1.output), by omega, fun j hj hne => (hg3.block j (by omega) (by simp; omega)).trans ((hbel.block j (by omega)).trans (hg1.block j hj hne))⟩
    exact grownBy_trans hx (below_grown hb4 _)
end Go.Proofs.Ytgccgacpifebbaa
