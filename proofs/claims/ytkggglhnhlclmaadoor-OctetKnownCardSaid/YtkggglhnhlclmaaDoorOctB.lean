/- Contracts of package octet: what appends: appendCount, appendWord, fresh. -/
import Derived.Test.YtkggglhnhlclmaaDoorOctA
namespace Go.Proofs.YtkggglhnhlclmaaDoor
open Go.RowKit
set_option linter.unusedVariables false

/-- append(row, y), y in a cell of its own: all other blocks stay as they were. -/
theorem app_cell {w : World} {B h : Nat} {v : Value} {xs : List Int} {y : Int} (hB : B ≤ w.heap.size) (ho : Own w B .u8 5 v xs) (hc : w.cell? ⟨h, 0, none⟩ = some (.int .u8 y)) (hm : xs.length + 1 ≤ 4294967296) :
    ∃ v' w', (Builtin.append_ #[22, 22] 22 #[v, .slice (some ⟨h, 0, none⟩) 1 1]).run Tryd.prog w = .ok v' w' ∧ Own w' B .u8 5 v' (xs ++ [y]) ∧ Below B w w' ∧ Keeps v v' w w' := by
  have hs : Src Tryd.prog 1 22 (.slice (some ⟨h, 0, none⟩) 1 1) [y].length ([y].map (Value.int .u8)) w := Src.ofSlice w Tryd.underlying22 ⟨h, 0, none⟩ 1 1 [.int .u8 y] (by simp) (fun j u hj => by
    have hadd : (⟨h, 0, none⟩ : Addr).add j = ⟨h, j, none⟩ := by unfold Addr.add; split <;> simp_all
    rcases j with _ | j
    · simp at hj; subst hj; rw [hadd]; exact hc
    · simp at hj) (fun u hu => by simp at hu; subst hu; rfl)
  obtain ⟨v', w', row, h1, h2, h3, _, _, h4⟩ := app_kept (ys := [y]) 22 Tryd.underlying22 info8' (by decide) hB ho hs (by simp) (by simpa using hm)
  exact ⟨v', w', h1, h2, h3, h4⟩
/-- append(row, bytes...). -/
theorem app_bs {w : World} {B : Nat} {v x : Value} {xs l : List Int} (hB : B ≤ w.heap.size) (ho : Own w B .u8 5 v xs) (h : Bs w x l) (hm : xs.length + l.length ≤ 4294967296) :
    ∃ v' w', (Builtin.append_ #[22, 22] 22 #[v, x]).run Tryd.prog w = .ok v' w' ∧ Own w' B .u8 5 v' (xs ++ l) ∧ Below B w w' ∧ Keeps v v' w w' := by
  have hs := h.src
  by_cases h0 : l.length = 0
  · have e : l = [] := List.eq_nil_of_length_eq_zero h0
    subst e
    obtain ⟨i, hi, hz, hsz, hb⟩ := info_parts info8'
    rw [List.append_nil]
    rcases ho with ⟨rfl, rfl⟩ | ⟨b, z, rfl, ha, hb'⟩
    · have hr : (Builtin.append_ #[22, 22] 22 #[.slice none 0 0, x]).run Tryd.prog w = .ok (.slice none 0 0) w := by
        rw [← hsz] at hs
        have hs' : Src Tryd.prog i.size 22 x 0 [] w := hs
        have hc := hs'.cells
        have hl := hs'.len
        simp [Builtin.append_, run_underlying Tryd.underlying22, sizeOf, typeInfo, hi, hl, hc]
      exact ⟨_, w, hr, .inl ⟨rfl, rfl⟩, Below.refl _ _, Keeps.below (Below.refl _ _)⟩
    · have hr := run_append_room_src (P := Tryd.prog) w 22 22 22 5 i Tryd.underlying22 hi b 0 xs.length (xs.length + z) x 0 [] (by rw [hsz]; exact hs) (by omega) (fun j hj => absurd hj (Nat.not_lt_zero j)) (fun j hj => absurd hj (Nat.not_lt_zero j))
      exact ⟨_, w, hr, .inr ⟨b, z, rfl, ha, hb'⟩, Below.refl _ _, Keeps.below (Below.refl _ _)⟩
  · have hl : (l.map (Value.int .u8)).length = l.length := List.length_map ..
    obtain ⟨v', w', row, h1, h2, h3, _, _, h4⟩ := app_kept 22 Tryd.underlying22 info8' (by decide) hB ho hs (by omega) hm
    exact ⟨v', w', h1, h2, h3, h4⟩
/-- What stands in the row: xs, and ys more. -/
def RetApp (v : Value) (xs ys : List Int) (B : Nat) (w : World) (e : Ending) (w' : World) : Prop := ∃ v', e = .returned v' ∧ Own w' B .u8 5 v' (xs ++ ys) ∧ Below B w w' ∧ Keeps v v' w w'
theorem cell_new (w : World) (y : Value) (t : TypeId) : (w.alloc (.cells #[y] t)).cell? ⟨w.heap.size, 0, none⟩ = some y := by
  rw [cell_of_row _ w.heap.size 0 _ t (0, 0) (heap_new _ _ _ rfl)]; rfl
theorem below_new (B : Nat) (w : World) (o : Obj) (hB : B ≤ w.heap.size) : Below B w (w.alloc o) := (Below.refl B w).alloc hB o
theorem keeps_new (v : Value) (w : World) (o : Obj) : Keeps v v w (w.alloc o) := Keeps.below (below_new _ w o (Nat.le_refl _))
set_option maxRecDepth 100000 in
set_option maxHeartbeats 2000000 in
theorem appendCount_any (n : Nat) (hn : n < 18446744073709551616) (v : Value) (xs : List Int) (B : Nat) (w : World) (hB : B ≤ w.heap.size) (h : Own w B .u8 5 v xs) (hm : xs.length ≤ 4000000000) :
    Calls Tryd.prog 15 #[v, .int .u64 n] w (RetApp v xs (cnt n) B w) := by
  have hlen := cnt_len n 9 (by omega)
  have Hlen := Lib.hid hlen
  clear hlen
  go_enter Tryd.func15, Tryd.ntmps15
  go_wp2_with fail
  go_loopg [0, 1] n (fun g bv nv wr => ∃ (m : Nat) (pre : List Int), g = m ∧ m ≤ n ∧ nv = .int .u64 m ∧ cnt n = pre ++ cnt m ∧ Own wr B .u8 5 bv (xs ++ pre) ∧ Below B w wr ∧ Keeps v bv w wr)
  case atStart => exact ⟨n, [], rfl, Nat.le_refl _, rfl, rfl, by rw [List.append_nil]; exact h, Below.refl _ _, Keeps.below (Below.refl _ _)⟩
  case round =>
    obtain ⟨m, pre, hg, hmn, rfl, hcnt, ho, hBl, hk⟩ := hrel
    have Hg := Lib.hid hg
    have Hcnt := Lib.hid hcnt
    have hpl : pre.length ≤ 10 := by
      have := congrArg List.length hcnt
      rw [List.length_append] at this
      have := Hlen.out
      omega
    have hBr := Nat.le_trans hB hBl.size
    clear hg hcnt h
    obtain ⟨p0, c0, rfl⟩ := ho.shape
    obtain ⟨L, hL⟩ : ∃ L, (xs ++ pre).length = L := ⟨_, rfl⟩
    have hLl : L ≤ 4000000010 := by rw [← hL, List.length_append]; omega
    rw [hL] at ho hk ⊢
    by_cases hlt : m < 128
    · have hlt' : ¬ (128 : Int) ≤ (m : Int) := by omega
      have w8 : IntKind.u8.wrap (m : Int) = (m : Int) := by rw [IntKind.wrap_u8]; omega
      obtain ⟨v1, w1, hrun, ho1, hb1, hk1⟩ := app_cell (h := wr.heap.size) (y := (m : Int)) (B := B) (by rw [World.size_alloc]; omega) (ho.alloc (.cells #[.int .u8 (m : Int)] 5)) (cell_new wr _ _) (by rw [hL]; omega)
      have Hrun := Lib.hid hrun
      have e := Hcnt.out
      rw [cnt_small hlt] at e
      clear hrun Hcnt
      go_wp2_with (at_builtin; refine Lib.wpList_append_run _ rfl _ _ _ _ rfl _ _ rfl rfl _ _ Hrun.out ?_)
      go_ret
      exact ⟨_, rfl, by rw [← List.append_assoc]; exact ho1, (hBl.trans (below_new B wr _ hBr)).trans hb1, (hk.trans (keeps_new _ wr _)).trans hk1⟩
    · have hge : (128 : Int) ≤ (m : Int) := by omega
      have hor := or_more m
      have hor2 := or_more m
      rw [IntKind.wrap_u8] at hor2
      obtain ⟨y, hy⟩ : ∃ y : Int, ((m % 128 + 128 : Nat) : Int) = y := ⟨_, rfl⟩
      rw [hy] at hor hor2
      obtain ⟨v1, w1, hrun, ho1, hb1, hk1⟩ := app_cell (h := wr.heap.size) (y := y) (B := B) (by rw [World.size_alloc]; omega) (ho.alloc (.cells #[.int .u8 y] 5)) (cell_new wr _ _) (by rw [hL]; omega)
      have Hrun := Lib.hid hrun
      have e := Hcnt.out
      rw [cnt_great hlt, hy] at e
      have He := Lib.hid e
      have sh : (m : Int) / 2 ^ 7 = ((m / 128 : Nat) : Int) := by omega
      clear hrun Hcnt hy e
      go_wp2_with (at_builtin; refine Lib.wpList_append_run _ rfl _ _ _ _ rfl _ _ rfl rfl _ _ Hrun.out ?_)
      go_roundg (m / 128)
      case measure => have := Hg.out; omega
      case rel => exact ⟨m / 128, pre ++ [y], rfl, by omega, by go_num, by rw [He.out]; simp, by rw [← List.append_assoc]; exact ho1, (hBl.trans (below_new B wr _ hBr)).trans hb1, (hk.trans (keeps_new _ wr _)).trans hk1⟩
theorem be8_length (h : Int) : (be8 h).length = 8 := rfl
theorem byte_down {n : Int} (k : Nat) (hk : k < 8) : IntKind.u8.wrap (n / 2 ^ (8 * (7 - k))) = (be8 n).getD k 0 := by
  rw [IntKind.wrap_u8]
  rcases (show k = 0 ∨ k = 1 ∨ k = 2 ∨ k = 3 ∨ k = 4 ∨ k = 5 ∨ k = 6 ∨ k = 7 by omega) with rfl | rfl | rfl | rfl | rfl | rfl | rfl | rfl <;> simp [be8]
set_option maxRecDepth 100000 in
set_option maxHeartbeats 2000000 in
theorem appendWord_any (n : Int) (hn : Word n) (v : Value) (xs : List Int) (B : Nat) (w : World) (hB : B ≤ w.heap.size) (h : Own w B .u8 5 v xs) (hm : xs.length ≤ 4000000000) :
    Calls Tryd.prog 16 #[v, .int .u64 n] w (RetApp v xs (be8 n) B w) := by
  go_enter Tryd.func16, Tryd.ntmps16
  go_wp2_with fail
  go_loopg [0, 6] 8 (fun g bv iv wr => ∃ k : Nat, g = 8 - k ∧ k ≤ 8 ∧ iv = .int .i64 k ∧ Own wr B .u8 5 bv (xs ++ (be8 n).take k) ∧ Below B w wr ∧ Keeps v bv w wr)
  case atStart => exact ⟨0, rfl, Nat.zero_le _, rfl, by rw [List.take_zero, List.append_nil]; exact h, Below.refl _ _, Keeps.below (Below.refl _ _)⟩
  case round =>
    obtain ⟨k, hg, hk8, rfl, ho, hBl, hk⟩ := hrel
    have Hg := Lib.hid hg
    have hBr := Nat.le_trans hB hBl.size
    clear hg h
    obtain ⟨p0, c0, rfl⟩ := ho.shape
    obtain ⟨L, hL⟩ : ∃ L, (xs ++ (be8 n).take k).length = L := ⟨_, rfl⟩
    have hLl : L ≤ 4000000010 := by rw [← hL, List.length_append, List.length_take]; omega
    rw [hL] at ho hk ⊢
    by_cases hlt : k < 8
    · have hd := byte_down (n := n) k hlt
      have htk := take_snoc (be8 n) k 0 (by rw [be8_length]; exact hlt)
      obtain ⟨y, hy⟩ : ∃ y : Int, (be8 n).getD k 0 = y := ⟨_, rfl⟩
      rw [hy] at hd htk
      obtain ⟨s, hs⟩ : ∃ s : Nat, 8 * (7 - k) = s := ⟨_, rfl⟩
      rw [hs] at hd
      have e1 : (8 : Int) * (7 - (k : Int)) = (s : Int) := by omega
      have s64 : s < 64 := by omega
      obtain ⟨v1, w1, hrun, ho1, hb1, hk1⟩ := app_cell (h := wr.heap.size) (y := y) (B := B) (by rw [World.size_alloc]; omega) (ho.alloc (.cells #[.int .u8 y] 5)) (cell_new wr _ _) (by rw [hL]; omega)
      have Hrun := Lib.hid hrun
      have Htk := Lib.hid htk
      have Hs := Lib.hid hs
      clear hrun htk hy hs
      go_wp2_with (at_builtin; refine Lib.wpList_append_run _ rfl _ _ _ _ rfl _ _ rfl rfl _ _ Hrun.out ?_)
      go_roundg (8 - (k + 1))
      case measure => have := Hg.out; omega
      case rel => exact ⟨k + 1, rfl, by omega, by go_num, by rw [Htk.out, ← List.append_assoc]; exact ho1, (hBl.trans (below_new B wr _ hBr)).trans hb1, (hk.trans (keeps_new _ wr _)).trans hk1⟩
    · obtain rfl : k = 8 := by omega
      rw [List.take_of_length_le (by rw [be8_length]; exact Nat.le_refl 8)] at ho
      go_wp2_with fail
      go_ret
      exact ⟨_, rfl, ho, hBl, hk⟩
/-- What a copy of l is: nothing, or a block of its own, spare room that is not shown behind. -/
def RetFresh (l : List Int) (w : World) (e : Ending) (w' : World) : Prop := ∃ p z, e = .returned (.slice p l.length l.length) ∧ Bs w' (.slice p l.length l.length) l ∧ ((p = none ∧ l = []) ∨ ∃ g, p = some ⟨g, 0, none⟩ ∧ Arr w' g 5 .u8 (l ++ List.replicate z 0) ∧ w.heap.size ≤ g) ∧ Below w.heap.size w w'
set_option maxRecDepth 100000 in
set_option maxHeartbeats 2000000 in
theorem fresh_bs (v : Value) (l : List Int) (hl : l.length ≤ 4000000000) (w : World) (h : Bs w v l) : Calls Tryd.prog 20 #[v] w (RetFresh l w) := by
  obtain ⟨v1, w1, hrun, ho1, hb1, hk1⟩ := app_bs (B := w.heap.size) (Nat.le_refl _) (own_nil w _ _ _) h (by simp; omega)
  rw [List.nil_append] at ho1
  have Hrun := Lib.hid hrun
  have hoc := h.octs
  obtain ⟨p, c, rfl, h1, h2, ho, h4⟩ := h
  obtain ⟨len, hlen⟩ : ∃ len, l.length = len := ⟨_, rfl⟩
  rcases ho1 with ⟨rfl, rfl⟩ | ⟨b, z, rfl, ha, hB⟩
  · clear hrun hlen h4
    go_enter Tryd.func20, Tryd.ntmps20
    go_wp2_with (at_builtin; refine Lib.wpList_append_run _ rfl _ _ _ _ rfl _ _ rfl rfl _ _ Hrun.out ?_)
    go_ret
    exact ⟨none, 0, rfl, Bs.nil _, .inl ⟨rfl, rfl⟩, hb1⟩
  · clear hrun h4
    have hbs : Bs w1 (.slice (some ⟨b, 0, none⟩) l.length l.length) l := by
      have := Bs.arr (w := w1) (g := b) (n := l.length) (c := l.length) ha (by simp) (Nat.le_refl _) (by omega) (by rw [List.take_left]; exact hoc)
      rwa [List.take_left] at this
    rw [hlen] at h1 hbs
    have a1 : len ≤ len + z := by omega
    rw [hlen] at Hrun ⊢
    clear hk1
    go_enter Tryd.func20, Tryd.ntmps20
    go_wp2_with (at_builtin; refine Lib.wpList_append_run _ rfl _ _ _ _ rfl _ _ rfl rfl _ _ Hrun.out ?_)
    go_ret
    refine ⟨some ⟨b, 0, none⟩, z, ?_, ?_, .inr ⟨b, rfl, ha, hB⟩, hb1⟩
    · rw [hlen]; rfl
    · rw [hlen]; exact hbs
end Go.Proofs.YtkggglhnhlclmaaDoor
