/- part: Rest. -/
import Derived.Test.YtgccgacpifebbaaDicD
import Derived.Test.YtgccgacpifebbaaApp
namespace Go.Proofs.Ytgccgacpifebbaa
open Go.RowKit
set_option linter.unusedVariables false

/-- What can be read of a slice of numbers, in a block from B on. -/
def Rd (w : World) (B : Nat) (v : Value) (l : List Int) : Prop := ∃ p c, v = .slice p l.length c ∧ (0 < l.length → ∃ q, p = some ⟨q, 0, none⟩ ∧ B ≤ q ∧ q < w.heap.size ∧ ∀ j, j < l.length → w.cell? ⟨q, j, none⟩ = some (.int .i64 (l.getD j 0)))
theorem Rd.below {w w' : World} {B : Nat} {v : Value} {l : List Int} (h : Rd w B v l) (hb : Below w.heap.size w w') : Rd w' B v l := by
  obtain ⟨p, c, rfl, hc⟩ := h
  refine ⟨p, c, rfl, fun h0 => ?_⟩
  obtain ⟨q, rfl, h1, h2, h3⟩ := hc h0
  exact ⟨q, rfl, h1, Nat.lt_of_lt_of_le h2 hb.size, fun j hj => ((bcell hb).1 q j h2).trans (h3 j hj)⟩
theorem cell_grown {w w' : World} {row : Option Nat} (hg : w.grownBy w' row) {q : Nat} (hq : q < w.heap.size) (hne : row ≠ some q) (j : Nat) : w'.cell? ⟨q, j, none⟩ = w.cell? ⟨q, j, none⟩ := by
  unfold World.cell?
  rw [hg.block q hq (fun e => hne e.symm)]
theorem Rd.grown {w w' : World} {B b : Nat} {v : Value} {l : List Int} (h : Rd w B v l) (hg : w.grownBy w' (some b)) (hb : b < B) : Rd w' B v l := by
  obtain ⟨p, c, rfl, hc⟩ := h
  refine ⟨p, c, rfl, fun h0 => ?_⟩
  obtain ⟨q, rfl, h1, h2, h3⟩ := hc h0
  exact ⟨q, rfl, h1, Nat.lt_of_lt_of_le h2 hg.size, fun j hj => (cell_grown hg h2 (by simp; omega) j).trans (h3 j hj)⟩
theorem Rd.drewN {w : World} {B : Nat} {v : Value} {l : List Int} (h : Rd w B v l) (m : Nat) : Rd (w.drewN m) B v l := h
theorem Ints.rd {w : World} {B : Nat} {v : Value} {l : List Int} (h : Ints w B v l) : Rd w B v l := by
  rcases h with ⟨rfl, rfl⟩ | ⟨q, rfl, ha, hq⟩
  · exact ⟨none, 0, rfl, fun h => absurd h (Nat.lt_irrefl 0)⟩
  · exact ⟨_, _, rfl, fun _ => ⟨q, rfl, hq, ha.lt, fun j hj => ha.cell j hj⟩⟩
theorem Own.rd {w : World} {B : Nat} {v : Value} {l : List Int} (h : Own w B .i64 3 v l) : Rd w B v l := by
  rcases h with ⟨rfl, rfl⟩ | ⟨q, z, rfl, ha, hq⟩
  · exact ⟨none, 0, rfl, fun h => absurd h (Nat.lt_irrefl 0)⟩
  · refine ⟨_, _, rfl, fun _ => ⟨q, rfl, hq, ha.lt, fun j hj => ?_⟩⟩
    rw [ha.cell j (by simp; omega)]
    simp [List.getD_eq_getElem?_getD, List.getElem?_append_left hj]

/-- A block of truths. -/
def BArr (w : World) (b : Nat) (l : List Bool) : Prop := w.heap[b]? = some (.cells (l.map Value.bool).toArray 65 (0, 0))
section
variable {w w' : World} {b : Nat} {l : List Bool}
theorem BArr.lt (h : BArr w b l) : b < w.heap.size := (Array.getElem?_eq_some_iff.1 h).1
theorem BArr.cell (h : BArr w b l) (i : Nat) (hi : i < l.length) : w.cell? ⟨b, i, none⟩ = some (.bool (l.getD i false)) := by
  rw [cell_of_row w b i _ 65 (0, 0) h]
  simp [hi, List.getD_eq_getElem?_getD]
theorem BArr.free (h : BArr w b l) (i : Nat) : w.frozen? ⟨b, i, none⟩ = false := frozen_of_row w b i _ 65 h
theorem BArr.set (h : BArr w b l) (i : Nat) (x : Bool) : BArr (w.setCell ⟨b, i, none⟩ (.bool x)) b (l.set i x) := by
  unfold BArr
  rw [heap_setCell_same w b i _ 65 _ h]
  simp [List.map_set]
theorem BArr.below {B : Nat} (h : BArr w b l) (hb : Below B w w') (hB : b < B) : BArr w' b l := (hb.block b hB).trans h
end
/-- Which of the first n are among the first k of l, M places in all. -/
def mark (M n : Nat) (l : List Int) (k : Nat) : List Bool := (List.range M).map fun i => decide (i < n) && (l.take k).contains (i : Int)
theorem mark_length (M n : Nat) (l : List Int) (k : Nat) : (mark M n l k).length = M := by simp [mark]
theorem mark_zero (M n : Nat) (l : List Int) : mark M n l 0 = List.replicate M false := by
  unfold mark
  simp only [List.take_zero, List.contains_nil, Bool.and_false]
  rw [List.map_const', List.length_range]
theorem mark_getD (M n : Nat) (l : List Int) (k i : Nat) (hi : i < M) : (mark M n l k).getD i false = (decide (i < n) && (l.take k).contains (i : Int)) := by
  unfold mark
  rw [List.getD_eq_getElem?_getD, List.getElem?_map, List.getElem?_range hi]
  rfl
theorem mark_in (M n : Nat) (l : List Int) (k x : Nat) (hk : k < l.length) (hx : l.getD k 0 = x) (hn : x < n) : (mark M n l k).set x true = mark M n l (k + 1) := by
  apply List.ext_getElem (by rw [List.length_set, mark_length, mark_length])
  intro i h1 h2
  rw [List.getElem_set]
  have e0 : ∀ k' (h : i < (mark M n l k').length), (mark M n l k')[i] = (decide (i < n) && (l.take k').contains (i : Int)) := by
    intro k' h
    rw [← mark_getD M n l k' i (by rw [mark_length] at h; exact h), List.getD_eq_getElem?_getD, List.getElem?_eq_getElem h]
    rfl
  rw [e0, e0, take_snoc l k 0 hk, hx, List.contains_append]
  by_cases e : x = i
  · subst e
    simp [hn]
  · have e2 : ¬ (i : Int) = (x : Int) := by omega
    simp [e, e2]
theorem mark_out (M n : Nat) (l : List Int) (k : Nat) (hk : k < l.length) (hx : l.getD k 0 < 0 ∨ (n : Int) ≤ l.getD k 0) : mark M n l k = mark M n l (k + 1) := by
  unfold mark
  apply List.map_congr_left
  intro i _
  rw [take_snoc l k 0 hk, List.contains_append]
  by_cases e : i < n
  · have e2 : ¬ (i : Int) = l.getD k 0 := by omega
    simp only [List.getD_eq_getElem?_getD] at e2
    simp [e2]
  · simp [e]
/-- Those of 0 to n - 1 that are not in l. -/
def restL (n : Nat) (l : List Int) : List Int := ((List.range n).filter fun i : Nat => !l.contains (i : Int)).map fun i : Nat => (i : Int)
theorem restL_zero (l : List Int) : restL 0 l = [] := rfl
theorem restL_in (i : Nat) (l : List Int) (h : l.contains (i : Int) = true) : restL (i + 1) l = restL i l := by
  unfold restL
  rw [List.range_succ, List.filter_append]
  simp only [List.filter_cons, h]
  simp
theorem restL_out (i : Nat) (l : List Int) (h : l.contains (i : Int) = false) : restL (i + 1) l = restL i l ++ [(i : Int)] := by
  unfold restL
  rw [List.range_succ, List.filter_append]
  simp only [List.filter_cons, h]
  simp
theorem restL_length (n : Nat) (l : List Int) : (restL n l).length ≤ n := by
  unfold restL
  rw [List.length_map]
  exact Nat.le_trans (List.length_filter_le _ _) (by simp)
theorem zero300 : Try.zeroCells65 = ((List.replicate 300 false).map Value.bool).toArray := by kernel_rfl
theorem arrayLen300 : Try.prog.arrayLen 65 = 300 := by kernel_rfl
theorem infoB : (Try.prog.info? 4).map (fun i => (i.zero, i.size, i.bytes)) = some (some (.bool false), 1, 1) := by kernel_rfl
theorem slice300 (tb n : Nat) (hn : n ≤ 300) (w : World) : (Instr.sliceAt 65 (.pointer (some ⟨tb, 0, none⟩)) none (some (.int .i64 n)) none).run Try.prog w = .ok (.slice (some ⟨tb, 0, none⟩) n 300) w := by
  obtain ⟨i0, hi, hz0, hz1, hz2⟩ := info_parts infoB
  have he : Try.prog.elem 65 = 4 := by kernel_rfl
  have hl := arrayLen300
  rw [run_sliceAt_array_h w _ _ (by kernel_rfl) .i64 (n : Int) (by omega) (by rw [hl]; omega), he]
  have ha : (⟨tb, 0, none⟩ : Addr).add 0 = ⟨tb, 0, none⟩ := rfl
  simp [sizeOf, typeInfo, hi, hl, slicedAt, ha]
set_option maxRecDepth 100000 in
set_option maxHeartbeats 1000000 in
theorem rest_any (n B0 : Nat) (h1 : 1 ≤ n) (h2 : n ≤ 300) (v : Value) (l : List Int) (hl : l.length ≤ 4294967296) (w : World) (hv : Rd w B0 v l) :
    Calls Try.prog 15 #[.int .i64 n, v] w fun e w' => ∃ v', e = .returned v' ∧ Own w' w.heap.size .i64 3 v' (restL n l) ∧ Below w.heap.size w w' := by
  obtain ⟨p, c, rfl, hc⟩ := hv
  have g1 : ¬ (n : Int) < 1 := by omega
  have g2 : ¬ (300 : Int) < (n : Int) := by omega
  have ht0 : BArr (w.alloc (.cells Try.zeroCells65 65)) w.heap.size (mark 300 n l 0) := by
    rw [mark_zero, zero300]; exact heap_alloc_new w _
  have hb0 : Below w.heap.size w (w.alloc (.cells Try.zeroCells65 65)) := by go_grown
  obtain ⟨L, hL⟩ : ∃ L, l.length = L := ⟨_, rfl⟩
  have hc0 : 0 < L → ∃ q, p = some ⟨q, 0, none⟩ ∧ q < w.heap.size ∧ ∀ j, j < L → w.cell? ⟨q, j, none⟩ = some (.int .i64 (l.getD j 0)) := by
    intro h0
    obtain ⟨q, hp, _, h3, h4⟩ := hc (by omega)
    exact ⟨q, hp, h3, fun j hj => h4 j (by omega)⟩
  rw [hL] at hl ⊢
  obtain ⟨tb, htb⟩ : ∃ tb, w.heap.size = tb := ⟨_, rfl⟩
  obtain ⟨M, hM⟩ : ∃ M, 300 = M := ⟨_, rfl⟩
  have hM2 : (300 : Int) = (M : Int) := by omega
  go_enter Try.func15, Try.ntmps15
  go_wp2_with fail
  rw [htb] at ht0 hb0 hc0
  have HM := Lib.hid hM
  generalize w.alloc (.cells Try.zeroCells65 65) = w1 at ht0 hb0 ⊢
  have HL := Lib.hid hL
  have Htb := Lib.hid htb
  clear hL htb hc hM
  go_loopg [19] L (fun g iv wr => ∃ k : Nat, g = L - k ∧ k ≤ L ∧ iv = .int .i64 k ∧ BArr wr tb (mark 300 n l k) ∧ Below tb w wr)
  case atStart => exact ⟨0, rfl, Nat.zero_le _, rfl, ht0, hb0⟩
  case round =>
    obtain ⟨k, hg, hk, rfl, ht, hb⟩ := hrel
    have Hg := Lib.hid hg
    clear hg ht0 hb0
    by_cases hlt : k < L
    · obtain ⟨q, rfl, hq, hcell⟩ := hc0 (by omega)
      have hx := hcell k hlt
      have hqc := (hb.cell (p := ⟨q, k, none⟩) hq).trans hx
      obtain ⟨x, hxe⟩ : ∃ x, l.getD k 0 = x := ⟨_, rfl⟩
      rw [hxe] at hqc
      clear hcell hx
      by_cases hin : 0 ≤ x ∧ x < n
      · obtain ⟨X, rfl⟩ := Int.eq_ofNat_of_zero_le hin.1
        have hX : X < n := by omega
        have hX3 : X < 300 := by omega
        have hf := ht.free X
        have hset := ht.set X true
        rw [mark_in 300 n l k X (by have := HL.out; omega) hxe hX] at hset
        have hb2 := hb.setCell (p := ⟨tb, X, none⟩) (Nat.le_refl _) (.bool true)
        have Hset := Lib.hid hset
        have Hb2 := Lib.hid hb2
        have hc1 := ht.cell X (by rw [mark_length]; omega)
        clear hset hb2 ht hb hxe hin
        go_wp2_with fail
        go_roundg (L - (k + 1))
        case measure => have := Hg.out; omega
        case rel => exact ⟨k + 1, rfl, by omega, by go_num, Hset.out, Hb2.out⟩
      · have hout := mark_out 300 n l k (by have := HL.out; omega) (by rw [hxe]; omega)
        rw [hout] at ht
        clear hxe
        by_cases hx0 : 0 ≤ x
        · have hge : ¬ x < n := by omega
          go_wp2_with fail
          go_roundg (L - (k + 1))
          case measure => have := Hg.out; omega
          case rel => exact ⟨k + 1, rfl, by omega, by go_num, ht, hb⟩
        · go_wp2_with fail
          go_roundg (L - (k + 1))
          case measure => have := Hg.out; omega
          case rel => exact ⟨k + 1, rfl, by omega, by go_num, ht, hb⟩
    · obtain rfl : k = L := by omega
      have hsl := slice300 tb n h2
      have hcon : ∀ i, i < n → (mark 300 n l k).getD i false = l.contains (i : Int) := by
        intro i hi
        rw [mark_getD _ _ _ _ _ (by omega), List.take_of_length_le (by have := HL.out; omega)]
        simp [hi]
      have hml := mark_length 300 n l k
      generalize mark 300 n l k = T at ht hcon hml
      have htl := ht.lt
      clear hc0
      go_wp2_with fail
      go_loopg [8, 36] n (fun g sl iv wq => ∃ (i : Nat) (v' : Value), g = n - i ∧ i ≤ n ∧ sl = v' ∧ iv = .int .i64 i ∧ BArr wq tb T ∧ Own wq (tb + 1) .i64 3 v' (restL i l) ∧ Below tb w wq)
      case atStart => exact ⟨0, _, rfl, Nat.zero_le _, rfl, rfl, ht, by rw [restL_zero]; exact own_nil _ _ _ _, hb⟩
      case round =>
        obtain ⟨i, v', hg2, hi, rfl, rfl, ht2, hown, hb2⟩ := hrel
        have Hg2 := Lib.hid hg2
        have htl2 := ht2.lt
        clear hg2 ht hb htl
        by_cases hlt2 : i < n
        · have hc1 := ht2.cell i (by omega)
          have hci := hcon i hlt2
          cases hcc : l.contains (i : Int)
          · rw [hci, hcc] at hc1
            have hr := restL_out i l hcc
            have hll := restL_length i l
            obtain ⟨v2, w2, hrun, hown2, hbel⟩ := app_one (P := Try.prog) (k := .i64) 27 Try.underlying27 infoI (by decide) (w := wr.alloc (.cells #[.int .i64 i] 3)) (B := tb + 1) (h := wr.heap.size) (y := i) (by simp; omega) (hown.alloc _) (by rw [cell_of_row _ _ 0 _ _ (0, 0) (heap_alloc_new wr _)]; rfl) (by omega)
            rw [← hr] at hown2
            have ht3 : BArr w2 tb T := ht2.below (B := tb + 1) (by have h0 : Below (tb + 1) wr (wr.alloc (.cells #[.int .i64 i] 3)) := (Below.refl (tb + 1) wr).alloc (by omega) _; exact h0.trans hbel) (by omega)
            have hb3 : Below tb w w2 := (hb2.alloc (by omega) _).trans (hbel.mono (by omega))
            obtain ⟨p0, c0, rfl⟩ := hown.shape
            have Hown2 := Lib.hid hown2
            clear hown hown2 hr hcc hci hcon
            go_wp2_with (at_builtin; refine Lib.wpList_append_run _ rfl _ _ _ _ rfl _ _ rfl rfl _ _ hrun ?_)
            go_roundg (n - (i + 1))
            case measure => have := Hg2.out; omega
            case rel => exact ⟨i + 1, _, rfl, by omega, rfl, by go_num, ht3, Hown2.out, hb3⟩
          · rw [hci, hcc] at hc1
            have hr := restL_in i l hcc
            rw [← hr] at hown
            obtain ⟨p0, c0, rfl⟩ := hown.shape
            clear hr hcc hci hcon
            go_wp2_with fail
            go_roundg (n - (i + 1))
            case measure => have := Hg2.out; omega
            case rel => exact ⟨i + 1, _, rfl, by omega, rfl, by go_num, ht2, hown, hb2⟩
        · obtain rfl : i = n := by omega
          clear hcon
          go_wp2_with fail
          go_ret
          have e := Htb.out
          subst e
          refine ⟨_, rfl, ?_, hb2⟩
          rcases hown with h | ⟨q, z, hv, ha, hq⟩
          · exact .inl h
          · exact .inr ⟨q, z, hv, ha, by omega⟩
end Go.Proofs.Ytgccgacpifebbaa
