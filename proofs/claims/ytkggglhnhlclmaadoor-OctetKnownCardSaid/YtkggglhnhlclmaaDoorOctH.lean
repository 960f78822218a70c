/- octet: chapter 4's example: known answers true. -/
import Derived.Test.YtkggglhnhlclmaaDoorOctG
import Derived.Test.YtkggglhnhlclmaaDoorBytes
namespace Go.Proofs.YtkggglhnhlclmaaDoor
open Go.RowKit
set_option linter.unusedVariables false

theorem cnt_3 : cnt 3 = [3] := cnt_small (by decide)
theorem cnt_300 : cnt 300 = [172, 2] := by rw [cnt_great (by decide), cnt_small (by decide)]; rfl
theorem bits_one : IsBits 1 1 := ⟨by decide, fun _ => by decide⟩
theorem count_3 (B b : Nat) (v : Value) (xs : List Int) (hm : xs.length ≤ 4000000000) (w : World) (h1 : B ≤ b) (h2 : w.heap[b]? = some (.cells #[v] 67 (0, 0))) (h3 : Own w B .u8 5 v xs) : Calls Tryd.prog 26 #[.pointer (some ⟨b, 0, none⟩), .int .i64 3] w fun e w' => e = .returned (.tuple #[]) ∧ WBox w' B b (xs ++ [3]) ∧ Below B w w' ∧ ∀ q, q < w.heap.size → q ≠ b → (∀ l c, v ≠ .slice (some ⟨q, 0, none⟩) l c) → w'.heap[q]? = w.heap[q]? := by
  have q := writer_count_v B b 3 (by decide) v xs hm w h1 h2 h3
  rw [cnt_3] at q
  exact q
theorem count_300 (B b : Nat) (xs : List Int) (hm : xs.length ≤ 4000000000) (w : World) (h : WBox w B b xs) : Calls Tryd.prog 26 #[.pointer (some ⟨b, 0, none⟩), .int .i64 300] w fun e w' => e = .returned (.tuple #[]) ∧ WBox w' B b (xs ++ [172, 2]) ∧ Below B w w' := by
  have q := writer_count B b 300 (by decide) xs hm w h
  rw [cnt_300] at q
  exact q
set_option maxRecDepth 100000 in
set_option maxHeartbeats 1000000 in
theorem writer_minus (B b : Nat) (xs : List Int) (hm : xs.length ≤ 1000) (w : World) (h : WBox w B b xs) : Calls Tryd.prog 27 #[.pointer (some ⟨b, 0, none⟩), .agg #[.bool true, .int .u64 1, .slice none 0 0]] w fun e w' => e = .returned (.tuple #[]) ∧ WBox w' B b (xs ++ [3, 1]) ∧ Below B w w' := by
  obtain ⟨h1, v, h2, h3⟩ := h
  have hbl := (Array.getElem?_eq_some_iff.1 h2).1
  have hbB : B ≤ w.heap.size := by omega
  have hvq : ∀ q l c, v = .slice (some ⟨q, 0, none⟩) l c → q < w.heap.size := by
    intro q l c e
    rcases h3 with ⟨h3, _⟩ | ⟨g, z, hv, ha, _⟩
    · rw [h3] at e; cases e
    · rw [hv] at e
      simp only [Value.slice.injEq, Option.some.injEq, Addr.mk.injEq] at e
      obtain ⟨⟨rfl, _, _⟩, _, _⟩ := e
      exact ha.lt
  have hW : Below w.heap.size w (w.alloc (.cells #[.bool true, .int .u64 1, .slice none 0 0] 35)) := by go_grown
  have hN := heap_new w (.cells #[.bool true, .int .u64 1, .slice none 0 0] 35) w.heap.size rfl
  go_enter Tryd.func27, Tryd.ntmps27
  go_wp2_with fail
  generalize (w.alloc (.cells #[.bool true, .int .u64 1, .slice none 0 0] 35)) = W at hW hN ⊢
  refine (abs_any true 1 none 0 0 W).mono ?_
  rintro e w1 ⟨rfl, b1⟩
  go_wp2_with fail
  refine (bytes_word 1 ⟨by decide, by decide⟩ w1).mono ?_
  rintro e w2 ⟨bb, k, m, rfl, hk, hmm, ha, hbg, b2⟩
  obtain rfl := hk.unique bits_one
  obtain rfl : m = 1 := hmm
  have e1 : be 1 1 = [1] := by decide
  rw [e1] at ha
  have b12 := b1.trans (b2.mono b1.size)
  have hN2 := (b12.block w.heap.size (Array.getElem?_eq_some_iff.1 hN).1).trans hN
  have c0 : w2.cell? ⟨w.heap.size, 0, none⟩ = some (.bool true) := by rw [cell_of_row w2 _ 0 _ _ (0, 0) hN2]; rfl
  have c1 : w2.cell? ⟨w.heap.size, 1, none⟩ = some (.int .u64 1) := by rw [cell_of_row w2 _ 1 _ _ (0, 0) hN2]; rfl
  have c2 : w2.cell? ⟨w.heap.size, 2, none⟩ = some (.slice none 0 0) := by rw [cell_of_row w2 _ 2 _ _ (0, 0) hN2]; rfl
  clear hk
  go_wp2_with fail
  refine (sign_neg 1 none 0 0 w2).mono ?_
  rintro e w3 ⟨rfl, b3⟩
  have b13 := b12.trans (b3.mono b12.size)
  have bw3 := hW.trans (b13.mono hW.size)
  replace h2 := (bw3.block b hbl).trans h2
  replace h3 := h3.below bw3
  replace ha := ha.below b3 ha.lt
  have hbb : w.heap.size ≤ bb := Nat.le_trans (Nat.le_trans hW.size b1.size) hbg
  go_wp2_with fail
  refine (count_3 B b v xs (by omega) w3 h1 h2 h3).mono ?_
  rintro e w4 ⟨rfl, ⟨_, v4, k2, k3⟩, b4, live⟩
  replace ha : Arr w4 bb 5 .u8 [1] := (live bb ha.lt (by omega) (fun l c e => by have := hvq bb l c e; omega)).trans ha
  have s4 : Bs w4 (.slice (some ⟨bb, 0, none⟩) 1 1) [1] := by
    have := Bs.arr (w := w4) (n := 1) (c := 1) ha (by decide) (Nat.le_refl 1) (by decide) (by intro x hx; simp at hx; omega)
    exact this
  have hbw := (bw3.mono hbB).trans b4
  obtain ⟨v5, w5, hrun, ho5, b5, kp5⟩ := app_bs (B := B) (Nat.le_trans hbB hbw.size) k3 s4 (by rw [List.length_append]; show xs.length + 1 + 1 ≤ 4294967296; omega)
  have hlt4 := (Array.getElem?_eq_some_iff.1 k2).1
  have k5 := (kp5.2.1 b hlt4 (own_ne k3 k2 k3.no_u8)).trans k2
  have f5 := frozen_of_row w5 b 0 _ _ k5
  have d5 : w5.cell? ⟨b, 0, none⟩ = some v4 := by rw [cell_of_row w5 b 0 _ _ (0, 0) k5]; rfl
  have d4 : w4.cell? ⟨b, 0, none⟩ = some v4 := by rw [cell_of_row w4 b 0 _ _ (0, 0) k2]; rfl
  have hs : (w5.setCell ⟨b, 0, none⟩ v5).heap[b]? = some (.cells #[v5] 67 (0, 0)) := heap_setCell_same w5 b 0 _ _ v5 k5
  have hset := ho5.set (x := v5) k5 k3.no_u8
  rw [List.append_assoc] at hset
  have hbn := (hbw.trans b5).setCell (p := ⟨b, 0, none⟩) h1 v5
  have hw : WBox (w5.setCell ⟨b, 0, none⟩ v5) B b (xs ++ [3, 1]) ∧ Below B w (w5.setCell ⟨b, 0, none⟩ v5) := ⟨⟨h1, _, hs, hset⟩, hbn⟩
  obtain ⟨p5, q5, e5⟩ := ho5.shape
  obtain ⟨L, hL⟩ : ∃ L, (xs ++ [3] ++ [1]).length = L := ⟨_, rfl⟩
  rw [hL] at e5
  subst e5
  have Hrun := Lib.hid hrun
  have Hw := Lib.hid hw
  clear hw hrun hs hset hbn kp5 ho5 hL ha s4 live c0 c1 c2 k5 k3
  go_wp2_with (at_builtin; refine Lib.wpList_append_run _ rfl _ _ _ _ rfl _ _ rfl rfl _ _ Hrun.out ?_)
  go_end0
  exact ⟨rfl, Hw.out⟩
set_option maxRecDepth 100000 in
set_option maxHeartbeats 1000000 in
theorem known4_true (w : World) : Calls Tryd.prog 8 #[] w fun e w' => e = .returned (.bool true) ∧ Below w.heap.size w w' := by
  have hW : Below w.heap.size w (w.alloc (.cells #[.slice none 0 0] 67)) := by go_grown
  have h0 := wbox_new w
  go_enter Tryd.func8, Tryd.ntmps8
  go_wp2_with fail
  refine (newWriter_any w).mono ?_
  rintro e w' ⟨rfl, rfl⟩
  generalize (w.alloc (.cells #[.slice none 0 0] 67)) = W at hW h0 ⊢
  go_wp2_with fail
  refine (count_300 _ _ [] (by decide) W h0).mono ?_
  rintro e w1 ⟨rfl, h1, b1⟩
  go_wp2_with fail
  refine (whole_minus w1).mono ?_
  rintro e w2 ⟨rfl, b2⟩
  replace h1 := h1.below b2
  go_wp2_with fail
  refine (writer_minus _ _ _ (by decide) w2 h1).mono ?_
  rintro e w3 ⟨rfl, h3, b3⟩
  have z1 := hW.size
  have z2 := b1.size
  have hB := ((hW.trans b1).trans (b2.mono (Nat.le_trans z1 z2))).trans b3
  go_wp2_with fail
  have h3' : WBox w3 w.heap.size w.heap.size [172, 2, 3, 1] := h3
  refine (writer_bytes _ _ _ (by intro x hx; simp at hx; omega) (by decide) w3 h3').mono ?_
  rintro e w4 ⟨p, z, rfl, hbs, hp, b4⟩
  rcases hp with ⟨_, hn⟩ | ⟨g, rfl, ha, _⟩
  · simp at hn
  · have hcv := run_convert_bytes_back (P := Tryd.prog) w4 22 9 5 ⟨g, 0, none⟩ 4 [172, 2, 3, 1] (by kernel_rfl) (by kernel_rfl) (by kernel_rfl) (fun i hi => by
      have hadd : (⟨g, 0, none⟩ : Addr).add i = ⟨g, i, none⟩ := by unfold Addr.add; split <;> simp_all
      have hi4 : i < 4 := hi
      rw [hadd, ha.cell i (by rw [List.length_append]; show i < 4 + _; omega)]
      rcases (show i = 0 ∨ i = 1 ∨ i = 2 ∨ i = 3 by omega) with rfl | rfl | rfl | rfl <;> rfl)
    have hBn := hB.trans (b4.mono hB.size)
    have hcv2 : (convert 22 9 (.slice (some ⟨g, 0, none⟩) 4 4)).run Tryd.prog w4 = .ok (.string ⟨#[172, 2, 3, 1]⟩) w4 := hcv
    rw [show ([172, 2, 3, 1] : List Int).length = 4 from rfl]
    clear ha hbs hcv
    go_wp2_with fail
    go_ret
    exact ⟨rfl, hBn⟩
end Go.Proofs.YtkggglhnhlclmaaDoor
