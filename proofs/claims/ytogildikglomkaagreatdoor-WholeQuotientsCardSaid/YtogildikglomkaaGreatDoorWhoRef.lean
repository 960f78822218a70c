/- The document's whole numbers: the other side, products, sums, signs. (gen_ref2.py) -/
import Derived.Test.YtogildikglomkaaGreatDoorWhoLaw
namespace Go.Proofs.YtogildikglomkaaGreatDoor
open Go.RowKit
set_option linter.unusedVariables false

theorem neg_if (z : Int) : (if (!decide (z < 0)) = true then -absI z else absI z) = -z := by
  unfold absI
  by_cases h : z < 0 <;> simp [h]
theorem mul_if (a b : Int) : (if (!(decide (a < 0) == decide (b < 0))) = true then -(absI a * absI b) else absI a * absI b) = a * b := by
  unfold absI
  by_cases h1 : a < 0 <;> by_cases h2 : b < 0 <;> simp [h1,h2,Int.neg_mul,Int.mul_neg]
theorem add_if (a b : Int) (h : decide (a < 0) = decide (b < 0)) : (if decide (a < 0) = true then -(absI a + absI b) else absI a + absI b) = a + b := by
  unfold absI
  by_cases h1 : a < 0 <;> by_cases h2 : b < 0 <;> simp [h1,h2] at h ⊢ <;> omega
theorem sub_if1 (a b : Int) (h : decide (a < 0) ≠ decide (b < 0)) : (if decide (a < 0) = true then -(absI a - absI b) else absI a - absI b) = a + b := by
  unfold absI
  by_cases h1 : a < 0 <;> by_cases h2 : b < 0 <;> simp [h1,h2] at h ⊢ <;> omega
theorem sub_if2 (a b : Int) (h : decide (a < 0) ≠ decide (b < 0)) : (if decide (b < 0) = true then -(absI b - absI a) else absI b - absI a) = a + b := by
  unfold absI
  by_cases h1 : a < 0 <;> by_cases h2 : b < 0 <;> simp [h1,h2] at h ⊢ <;> omega
theorem RetR.shape {z : Int} {w : World} {e : Ending} {w' : World} (h : RetR z w e w') : ∃ b p l c, e = .returned (.agg #[.bool b, .slice p l c]) ∧ Hid (b = decide (z < 0)) ∧ IsNum w' (.slice p l c) (absI z) ∧ Below w.heap.size w w' := by
  obtain ⟨v, rfl, ⟨b, p, l, c, rfl, h1, h2⟩, hb⟩ := h
  exact ⟨b, p, l, c, rfl, Lib.hid h1, h2, hb⟩
theorem I_shape (neg : Bool) (s : Value) (n z : Int) (hz : (if neg = true then -n else n) = z) (w : World) (h : IsNum w s n) : Calls Tryz.prog 25 #[.bool neg, s] w fun e w' => ∃ b p l c, e = .returned (.agg #[.bool b, .slice p l c]) ∧ Hid (b = decide (z < 0)) ∧ IsNum w' (.slice p l c) (absI z) ∧ Below w.heap.size w w' :=
  (I_any neg s n z hz w h).mono fun _ _ h => h.shape

set_option maxRecDepth 100000 in
set_option maxHeartbeats 2000000 in
theorem neg_R (u : Value) (z : Int) (w : World) (hu : IsR w u z) : Calls Tryz.prog 63 #[u] w (RetR (-z) w) := by
  obtain ⟨bA, pA, lA, cA, rfl, hbA, hA⟩ := hu
  have hI := fun W (h : Below w.heap.size w W) => I_shape (!bA) (.slice pA lA cA) (absI z) (-z) (by rw [hbA]; exact neg_if z) W (hA.below h)
  clear hbA hA
  have hW : Below w.heap.size w ((w.alloc (.cells #[.bool bA,.slice pA lA cA] 49)).alloc (.cells #[.bool false,.slice none 0 0] 49)) := by go_grown
  have ra := ((RowR.new w (.bool bA) (.slice pA lA cA) (w.heap.size) rfl).alloc (.cells #[.bool false,.slice none 0 0] 49))
  have rr := (RowR.new (w.alloc (.cells #[.bool bA,.slice pA lA cA] 49)) (.bool false) (.slice none 0 0) (w.heap.size + 1) (by simp))
  go_enter Tryz.func63, Tryz.ntmps63
  have a0 := ra.cell0
  have a1 := ra.cell1
  go_wp2_with fail
  clear a0 a1
  refine (hI _ hW).mono ?_
  rintro e wN ⟨b2,p2,l2,k2,rfl,Hbz,hn2,hb⟩
  replace rr := rr.below hb rr.lt
  have hbw := hW.trans (hb.mono hW.size)
  clear ra hb hI
  have r0 := rr.cell0
  have r1 := rr.cell1
  have f0 := rr.free 0
  have f1 := rr.free 1
  have g3 := rr.set2 (.bool b2) (.slice p2 l2 k2)
  have hB3 := (hbw.setCell (p := ⟨w.heap.size + 1,0,none⟩) (by show w.heap.size ≤ w.heap.size + 1; omega) (.bool b2)).setCell (p := ⟨w.heap.size + 1,1,none⟩) (by show w.heap.size ≤ w.heap.size + 1; omega) (.slice p2 l2 k2)
  have hn3 := hn2.rowR rr 0 1 (.bool b2) (.slice p2 l2 k2)
  go_wp2_with fail
  exact bodyPost_R Tryz.results63 rfl rfl g3 Hbz.out hn3 hB3
set_option maxRecDepth 100000 in
set_option maxHeartbeats 2000000 in
theorem mul_R (K : Nat) (hK : K ≤ 1048576) (u v : Value) (a b : Int) (w : World) (hu : IsR w u a) (hv : IsR w v b) (haK : absI a < lpw K) (hbK : absI b < lpw K) : Calls Tryz.prog 28 #[u,v] w (RetR (a * b) w) := by
  obtain ⟨bA, pA, lA, cA, rfl, hbA, hA⟩ := hu
  obtain ⟨bB, pB, lB, cB, rfl, hbB, hB⟩ := hv
  have hI := fun s W (h : IsNum W s (absI a * absI b)) => I_shape (!(bA == bB)) s (absI a * absI b) (a * b) (by rw [hbA, hbB]; exact mul_if a b) W h
  have hM := fun W (h : Below w.heap.size w W) => natMul_num K hK (.slice pA lA cA) (.slice pB lB cB) (absI a) (absI b) W (hA.below h) (hB.below h) haK hbK
  clear hbA hbB hA hB haK hbK
  have hW : Below w.heap.size w (((w.alloc (.cells #[.bool bA,.slice pA lA cA] 49)).alloc (.cells #[.bool bB,.slice pB lB cB] 49)).alloc (.cells #[.bool false,.slice none 0 0] 49)) := by go_grown
  have ra := (((RowR.new w (.bool bA) (.slice pA lA cA) (w.heap.size) rfl).alloc (.cells #[.bool bB,.slice pB lB cB] 49)).alloc (.cells #[.bool false,.slice none 0 0] 49))
  have rb := ((RowR.new (w.alloc (.cells #[.bool bA,.slice pA lA cA] 49)) (.bool bB) (.slice pB lB cB) (w.heap.size + 1) (by simp)).alloc (.cells #[.bool false,.slice none 0 0] 49))
  have rr := (RowR.new ((w.alloc (.cells #[.bool bA,.slice pA lA cA] 49)).alloc (.cells #[.bool bB,.slice pB lB cB] 49)) (.bool false) (.slice none 0 0) (w.heap.size + 1 + 1) (by simp))
  go_enter Tryz.func28, Tryz.ntmps28
  go_wp2_with fail
  generalize (((w.alloc (.cells #[.bool bA,.slice pA lA cA] 49)).alloc (.cells #[.bool bB,.slice pB lB cB] 49)).alloc (.cells #[.bool false,.slice none 0 0] 49)) = W at hW ra rb rr  ⊢
  obtain ⟨q, hq⟩ : ∃ q, w.heap.size = q := ⟨_, rfl⟩
  rw [hq] at ra rb rr ⊢
  have zra := ra.lt
  have zrb := rb.lt
  have zrr := rr.lt
  have dra : q ≠ q + 1 + 1 := by omega
  have drb : q + 1 ≠ q + 1 + 1 := by omega
  have hqw : w.heap.size ≤ q + 1 + 1 := by omega
  have acc := Below.refl W.heap.size W
  have ra_0 := (ra.below acc zra).cell0
  have ra_1 := (ra.below acc zra).cell1
  have rb_0 := (rb.below acc zrb).cell0
  have rb_1 := (rb.below acc zrb).cell1
  have rr_0 := (rr.below acc zrr).cell0
  have rr_1 := (rr.below acc zrr).cell1
  have f0 := (rr.below acc zrr).free 0
  have f1 := (rr.below acc zrr).free 1
  go_region_held3 (fun w' => w'.cell? ⟨q, 0, none⟩ = some (.bool bA) ∧ w'.cell? ⟨q, 1, none⟩ = some (.slice pA lA cA) ∧ w'.cell? ⟨q + 1, 0, none⟩ = some (.bool bB) ∧ w'.cell? ⟨q + 1, 1, none⟩ = some (.slice pB lB cB))
    (first | with_reducible exact ⟨(ra.below acc zra).cell0,(ra.below acc zra).cell1,(rb.below acc zrb).cell0,(rb.below acc zrb).cell1⟩ | with_reducible exact ⟨(ra.below acc.drew zra).cell0,(ra.below acc.drew zra).cell1,(rb.below acc.drew zrb).cell0,(rb.below acc.drew zrb).cell1⟩ | with_reducible exact ⟨(((ra.below acc zra).other (a := ⟨q + 1 + 1,0,none⟩) dra _).other (a := ⟨q + 1 + 1,1,none⟩) dra _).cell0,(((ra.below acc zra).other (a := ⟨q + 1 + 1,0,none⟩) dra _).other (a := ⟨q + 1 + 1,1,none⟩) dra _).cell1,(((rb.below acc zrb).other (a := ⟨q + 1 + 1,0,none⟩) drb _).other (a := ⟨q + 1 + 1,1,none⟩) drb _).cell0,(((rb.below acc zrb).other (a := ⟨q + 1 + 1,0,none⟩) drb _).other (a := ⟨q + 1 + 1,1,none⟩) drb _).cell1⟩)
    (first
      | (go_at_call 60; (first | (have q1 := hM _ (hW.trans (acc.mono hW.size)); (with_reducible refine q1.mono ?_); clear q1) | (have q1 := hM _ (hW.trans (acc.drew.mono hW.size)); (with_reducible refine q1.mono ?_); clear q1)); rintro e wN ⟨s,rfl,hs,hb⟩; (first | replace acc := below_acc acc acc.size hb | replace acc := below_accD acc acc.size hb); clear hb; have ra_0 := (ra.below acc zra).cell0; have ra_1 := (ra.below acc zra).cell1; have rb_0 := (rb.below acc zrb).cell0; have rb_1 := (rb.below acc zrb).cell1; have rr_0 := (rr.below acc zrr).cell0; have rr_1 := (rr.below acc zrr).cell1; have f0 := (rr.below acc zrr).free 0; have f1 := (rr.below acc zrr).free 1)
      | (go_at_call 25; (first | (have q1 := hI _ _ hs; (with_reducible refine q1.mono ?_); clear q1) | (have q1 := hI _ _ hs.drewR; (with_reducible refine q1.mono ?_); clear q1)); rintro e wN ⟨b2,p2,l2,k2,rfl,Hbz,hn2,hb⟩; (first | replace acc := below_acc acc acc.size hb | replace acc := below_accD acc acc.size hb); clear hb; have ra_0 := (ra.below acc zra).cell0; have ra_1 := (ra.below acc zra).cell1; have rb_0 := (rb.below acc zrb).cell0; have rb_1 := (rb.below acc zrb).cell1; have rr_0 := (rr.below acc zrr).cell0; have rr_1 := (rr.below acc zrr).cell1; have f0 := (rr.below acc zrr).free 0; have f1 := (rr.below acc zrr).free 1))
  all_goals
    have hbw := hW.trans (acc.mono hW.size)
    have r2 := rr.below acc zrr
    have g3 := r2.set2 (.bool b2) (.slice p2 l2 k2)
    have hB3 := (hbw.setCell (p := ⟨q + 1 + 1,0,none⟩) hqw (.bool b2)).setCell (p := ⟨q + 1 + 1,1,none⟩) hqw (.slice p2 l2 k2)
    have hn3 := hn2.rowR r2 0 1 (.bool b2) (.slice p2 l2 k2)
    go_wp2_with fail
    exact bodyPost_R Tryz.results28 rfl rfl g3 Hbz.out hn3 hB3
set_option maxRecDepth 100000 in
set_option maxHeartbeats 2000000 in
theorem add_R1 (K : Nat) (hK : K ≤ 1048576) (u v : Value) (a b : Int) (w : World) (hu : IsR w u a) (hv : IsR w v b) (haK : absI a < lpw K) (hbK : absI b < lpw K) (hs : decide (a < 0) = decide (b < 0)) : Calls Tryz.prog 94 #[u,v] w (RetR (a + b) w) := by
  obtain ⟨bA, pA, lA, cA, rfl, hbA, hA⟩ := hu
  obtain ⟨bB, pB, lB, cB, rfl, hbB, hB⟩ := hv
  have hI := fun s W (h : IsNum W s (absI a + absI b)) => I_shape bA s (absI a + absI b) (a + b) (by rw [hbA]; exact add_if a b hs) W h
  have hM := fun W (h : Below w.heap.size w W) => natAdd_num K hK (.slice pA lA cA) (.slice pB lB cB) (absI a) (absI b) W (hA.below h) (hB.below h) haK hbK
  have e0 : (bA == bB) = true := by rw [hbA, hbB, hs]; simp
  clear hs
  clear hbA hbB hA hB haK hbK
  have hW : Below w.heap.size w (((w.alloc (.cells #[.bool bA,.slice pA lA cA] 49)).alloc (.cells #[.bool bB,.slice pB lB cB] 49)).alloc (.cells #[.bool false,.slice none 0 0] 49)) := by go_grown
  have ra := (((RowR.new w (.bool bA) (.slice pA lA cA) (w.heap.size) rfl).alloc (.cells #[.bool bB,.slice pB lB cB] 49)).alloc (.cells #[.bool false,.slice none 0 0] 49))
  have rb := ((RowR.new (w.alloc (.cells #[.bool bA,.slice pA lA cA] 49)) (.bool bB) (.slice pB lB cB) (w.heap.size + 1) (by simp)).alloc (.cells #[.bool false,.slice none 0 0] 49))
  have rr := (RowR.new ((w.alloc (.cells #[.bool bA,.slice pA lA cA] 49)).alloc (.cells #[.bool bB,.slice pB lB cB] 49)) (.bool false) (.slice none 0 0) (w.heap.size + 1 + 1) (by simp))
  go_enter Tryz.func94, Tryz.ntmps94
  have a0 := ra.cell0
  have b0 := rb.cell0
  go_wp2_with fail
  clear a0 b0
  generalize (((w.alloc (.cells #[.bool bA,.slice pA lA cA] 49)).alloc (.cells #[.bool bB,.slice pB lB cB] 49)).alloc (.cells #[.bool false,.slice none 0 0] 49)) = W at hW ra rb rr  ⊢
  obtain ⟨q, hq⟩ : ∃ q, w.heap.size = q := ⟨_, rfl⟩
  rw [hq] at ra rb rr ⊢
  have zra := ra.lt
  have zrb := rb.lt
  have zrr := rr.lt
  have dra : q ≠ q + 1 + 1 := by omega
  have drb : q + 1 ≠ q + 1 + 1 := by omega
  have hqw : w.heap.size ≤ q + 1 + 1 := by omega
  have acc := Below.refl W.heap.size W
  have ra_0 := (ra.below acc zra).cell0
  have ra_1 := (ra.below acc zra).cell1
  have rb_0 := (rb.below acc zrb).cell0
  have rb_1 := (rb.below acc zrb).cell1
  have rr_0 := (rr.below acc zrr).cell0
  have rr_1 := (rr.below acc zrr).cell1
  have f0 := (rr.below acc zrr).free 0
  have f1 := (rr.below acc zrr).free 1
  go_region_held3 (fun w' => w'.cell? ⟨q, 0, none⟩ = some (.bool bA) ∧ w'.cell? ⟨q, 1, none⟩ = some (.slice pA lA cA) ∧ w'.cell? ⟨q + 1, 0, none⟩ = some (.bool bB) ∧ w'.cell? ⟨q + 1, 1, none⟩ = some (.slice pB lB cB))
    (first | with_reducible exact ⟨(ra.below acc zra).cell0,(ra.below acc zra).cell1,(rb.below acc zrb).cell0,(rb.below acc zrb).cell1⟩ | with_reducible exact ⟨(ra.below acc.drew zra).cell0,(ra.below acc.drew zra).cell1,(rb.below acc.drew zrb).cell0,(rb.below acc.drew zrb).cell1⟩ | with_reducible exact ⟨(((ra.below acc zra).other (a := ⟨q + 1 + 1,0,none⟩) dra _).other (a := ⟨q + 1 + 1,1,none⟩) dra _).cell0,(((ra.below acc zra).other (a := ⟨q + 1 + 1,0,none⟩) dra _).other (a := ⟨q + 1 + 1,1,none⟩) dra _).cell1,(((rb.below acc zrb).other (a := ⟨q + 1 + 1,0,none⟩) drb _).other (a := ⟨q + 1 + 1,1,none⟩) drb _).cell0,(((rb.below acc zrb).other (a := ⟨q + 1 + 1,0,none⟩) drb _).other (a := ⟨q + 1 + 1,1,none⟩) drb _).cell1⟩)
    (first
      | (go_at_call 123; (first | (have q1 := hM _ (hW.trans (acc.mono hW.size)); (with_reducible refine q1.mono ?_); clear q1) | (have q1 := hM _ (hW.trans (acc.drew.mono hW.size)); (with_reducible refine q1.mono ?_); clear q1)); rintro e wN ⟨s,rfl,hs,hb⟩; (first | replace acc := below_acc acc acc.size hb | replace acc := below_accD acc acc.size hb); clear hb; have ra_0 := (ra.below acc zra).cell0; have ra_1 := (ra.below acc zra).cell1; have rb_0 := (rb.below acc zrb).cell0; have rb_1 := (rb.below acc zrb).cell1; have rr_0 := (rr.below acc zrr).cell0; have rr_1 := (rr.below acc zrr).cell1; have f0 := (rr.below acc zrr).free 0; have f1 := (rr.below acc zrr).free 1)
      | (go_at_call 25; (first | (have q1 := hI _ _ hs; (with_reducible refine q1.mono ?_); clear q1) | (have q1 := hI _ _ hs.drewR; (with_reducible refine q1.mono ?_); clear q1)); rintro e wN ⟨b2,p2,l2,k2,rfl,Hbz,hn2,hb⟩; (first | replace acc := below_acc acc acc.size hb | replace acc := below_accD acc acc.size hb); clear hb; have ra_0 := (ra.below acc zra).cell0; have ra_1 := (ra.below acc zra).cell1; have rb_0 := (rb.below acc zrb).cell0; have rb_1 := (rb.below acc zrb).cell1; have rr_0 := (rr.below acc zrr).cell0; have rr_1 := (rr.below acc zrr).cell1; have f0 := (rr.below acc zrr).free 0; have f1 := (rr.below acc zrr).free 1))
  all_goals
    have hbw := hW.trans (acc.mono hW.size)
    have r2 := rr.below acc zrr
    have g3 := r2.set2 (.bool b2) (.slice p2 l2 k2)
    have hB3 := (hbw.setCell (p := ⟨q + 1 + 1,0,none⟩) hqw (.bool b2)).setCell (p := ⟨q + 1 + 1,1,none⟩) hqw (.slice p2 l2 k2)
    have hn3 := hn2.rowR r2 0 1 (.bool b2) (.slice p2 l2 k2)
    go_wp2_with fail
    exact bodyPost_R Tryz.results94 rfl rfl g3 Hbz.out hn3 hB3
set_option maxRecDepth 100000 in
set_option maxHeartbeats 2000000 in
theorem add_R2 (K : Nat) (hK : K ≤ 1048576) (u v : Value) (a b : Int) (w : World) (hu : IsR w u a) (hv : IsR w v b) (haK : absI a < lpw K) (hbK : absI b < lpw K) (hs : decide (a < 0) ≠ decide (b < 0)) (hle : absI b ≤ absI a) : Calls Tryz.prog 94 #[u,v] w (RetR (a + b) w) := by
  obtain ⟨bA, pA, lA, cA, rfl, hbA, hA⟩ := hu
  obtain ⟨bB, pB, lB, cB, rfl, hbB, hB⟩ := hv
  have hI := fun s W (h : IsNum W s (absI a - absI b)) => I_shape bA s (absI a - absI b) (a + b) (by rw [hbA]; exact sub_if1 a b hs) W h
  have hM := fun W (h : Below w.heap.size w W) => natSub_num (.slice pA lA cA) (.slice pB lB cB) (absI a) (absI b) W (hA.below h) (hB.below h) hle
  have hC := fun W (h : Below w.heap.size w W) => natCmp_num (.slice pA lA cA) (.slice pB lB cB) (absI a) (absI b) W (hA.below h) (hB.below h)
  obtain ⟨C, hc, hc0⟩ : ∃ C, cmpI (absI a) (absI b) = C ∧ 0 ≤ C := ⟨_, rfl, by unfold cmpI; rw [if_neg (by omega)]; split <;> decide⟩
  rw [hc] at hC
  have e0 : (bA == bB) = false := by rw [hbA, hbB]; simpa using hs
  clear hs hle hc
  clear hbA hbB hA hB haK hbK
  have hW : Below w.heap.size w (((w.alloc (.cells #[.bool bA,.slice pA lA cA] 49)).alloc (.cells #[.bool bB,.slice pB lB cB] 49)).alloc (.cells #[.bool false,.slice none 0 0] 49)) := by go_grown
  have ra := (((RowR.new w (.bool bA) (.slice pA lA cA) (w.heap.size) rfl).alloc (.cells #[.bool bB,.slice pB lB cB] 49)).alloc (.cells #[.bool false,.slice none 0 0] 49))
  have rb := ((RowR.new (w.alloc (.cells #[.bool bA,.slice pA lA cA] 49)) (.bool bB) (.slice pB lB cB) (w.heap.size + 1) (by simp)).alloc (.cells #[.bool false,.slice none 0 0] 49))
  have rr := (RowR.new ((w.alloc (.cells #[.bool bA,.slice pA lA cA] 49)).alloc (.cells #[.bool bB,.slice pB lB cB] 49)) (.bool false) (.slice none 0 0) (w.heap.size + 1 + 1) (by simp))
  go_enter Tryz.func94, Tryz.ntmps94
  have a0 := ra.cell0
  have b0 := rb.cell0
  have a1 := ra.cell1
  have b1 := rb.cell1
  go_wp2_with fail
  clear a0 b0 a1 b1
  refine (hC _ hW).mono ?_
  rintro e wc ⟨rfl, hb⟩
  replace ra := ra.below hb ra.lt
  replace rb := rb.below hb rb.lt
  replace rr := rr.below hb rr.lt
  replace hW := hW.trans (hb.mono hW.size)
  clear hb hC
  go_wp2_with fail
  generalize wc = W at hW ra rb rr ⊢
  obtain ⟨q, hq⟩ : ∃ q, w.heap.size = q := ⟨_, rfl⟩
  rw [hq] at ra rb rr ⊢
  have zra := ra.lt
  have zrb := rb.lt
  have zrr := rr.lt
  have dra : q ≠ q + 1 + 1 := by omega
  have drb : q + 1 ≠ q + 1 + 1 := by omega
  have hqw : w.heap.size ≤ q + 1 + 1 := by omega
  have acc := Below.refl W.heap.size W
  have ra_0 := (ra.below acc zra).cell0
  have ra_1 := (ra.below acc zra).cell1
  have rb_0 := (rb.below acc zrb).cell0
  have rb_1 := (rb.below acc zrb).cell1
  have rr_0 := (rr.below acc zrr).cell0
  have rr_1 := (rr.below acc zrr).cell1
  have f0 := (rr.below acc zrr).free 0
  have f1 := (rr.below acc zrr).free 1
  go_region_held3 (fun w' => w'.cell? ⟨q, 0, none⟩ = some (.bool bA) ∧ w'.cell? ⟨q, 1, none⟩ = some (.slice pA lA cA) ∧ w'.cell? ⟨q + 1, 0, none⟩ = some (.bool bB) ∧ w'.cell? ⟨q + 1, 1, none⟩ = some (.slice pB lB cB))
    (first | with_reducible exact ⟨(ra.below acc zra).cell0,(ra.below acc zra).cell1,(rb.below acc zrb).cell0,(rb.below acc zrb).cell1⟩ | with_reducible exact ⟨(ra.below acc.drew zra).cell0,(ra.below acc.drew zra).cell1,(rb.below acc.drew zrb).cell0,(rb.below acc.drew zrb).cell1⟩ | with_reducible exact ⟨(((ra.below acc zra).other (a := ⟨q + 1 + 1,0,none⟩) dra _).other (a := ⟨q + 1 + 1,1,none⟩) dra _).cell0,(((ra.below acc zra).other (a := ⟨q + 1 + 1,0,none⟩) dra _).other (a := ⟨q + 1 + 1,1,none⟩) dra _).cell1,(((rb.below acc zrb).other (a := ⟨q + 1 + 1,0,none⟩) drb _).other (a := ⟨q + 1 + 1,1,none⟩) drb _).cell0,(((rb.below acc zrb).other (a := ⟨q + 1 + 1,0,none⟩) drb _).other (a := ⟨q + 1 + 1,1,none⟩) drb _).cell1⟩)
    (first
      | (go_at_call 124; (first | (have q1 := hM _ (hW.trans (acc.mono hW.size)); (with_reducible refine q1.mono ?_); clear q1) | (have q1 := hM _ (hW.trans (acc.drew.mono hW.size)); (with_reducible refine q1.mono ?_); clear q1)); rintro e wN ⟨s,rfl,hs,hb⟩; (first | replace acc := below_acc acc acc.size hb | replace acc := below_accD acc acc.size hb); clear hb; have ra_0 := (ra.below acc zra).cell0; have ra_1 := (ra.below acc zra).cell1; have rb_0 := (rb.below acc zrb).cell0; have rb_1 := (rb.below acc zrb).cell1; have rr_0 := (rr.below acc zrr).cell0; have rr_1 := (rr.below acc zrr).cell1; have f0 := (rr.below acc zrr).free 0; have f1 := (rr.below acc zrr).free 1)
      | (go_at_call 25; (first | (have q1 := hI _ _ hs; (with_reducible refine q1.mono ?_); clear q1) | (have q1 := hI _ _ hs.drewR; (with_reducible refine q1.mono ?_); clear q1)); rintro e wN ⟨b2,p2,l2,k2,rfl,Hbz,hn2,hb⟩; (first | replace acc := below_acc acc acc.size hb | replace acc := below_accD acc acc.size hb); clear hb; have ra_0 := (ra.below acc zra).cell0; have ra_1 := (ra.below acc zra).cell1; have rb_0 := (rb.below acc zrb).cell0; have rb_1 := (rb.below acc zrb).cell1; have rr_0 := (rr.below acc zrr).cell0; have rr_1 := (rr.below acc zrr).cell1; have f0 := (rr.below acc zrr).free 0; have f1 := (rr.below acc zrr).free 1))
  all_goals
    have hbw := hW.trans (acc.mono hW.size)
    have r2 := rr.below acc zrr
    have g3 := r2.set2 (.bool b2) (.slice p2 l2 k2)
    have hB3 := (hbw.setCell (p := ⟨q + 1 + 1,0,none⟩) hqw (.bool b2)).setCell (p := ⟨q + 1 + 1,1,none⟩) hqw (.slice p2 l2 k2)
    have hn3 := hn2.rowR r2 0 1 (.bool b2) (.slice p2 l2 k2)
    go_wp2_with fail
    exact bodyPost_R Tryz.results94 rfl rfl g3 Hbz.out hn3 hB3
set_option maxRecDepth 100000 in
set_option maxHeartbeats 2000000 in
theorem add_R3 (K : Nat) (hK : K ≤ 1048576) (u v : Value) (a b : Int) (w : World) (hu : IsR w u a) (hv : IsR w v b) (haK : absI a < lpw K) (hbK : absI b < lpw K) (hs : decide (a < 0) ≠ decide (b < 0)) (hle : absI a < absI b) : Calls Tryz.prog 94 #[u,v] w (RetR (a + b) w) := by
  obtain ⟨bA, pA, lA, cA, rfl, hbA, hA⟩ := hu
  obtain ⟨bB, pB, lB, cB, rfl, hbB, hB⟩ := hv
  have hI := fun s W (h : IsNum W s (absI b - absI a)) => I_shape bB s (absI b - absI a) (a + b) (by rw [hbB]; exact sub_if2 a b hs) W h
  have hM := fun W (h : Below w.heap.size w W) => natSub_num (.slice pB lB cB) (.slice pA lA cA) (absI b) (absI a) W (hB.below h) (hA.below h) (by omega)
  have hC := fun W (h : Below w.heap.size w W) => natCmp_num (.slice pA lA cA) (.slice pB lB cB) (absI a) (absI b) W (hA.below h) (hB.below h)
  rw [show cmpI (absI a) (absI b) = -1 by unfold cmpI; rw [if_pos hle]] at hC
  have e0 : (bA == bB) = false := by rw [hbA, hbB]; simpa using hs
  clear hs hle
  clear hbA hbB hA hB haK hbK
  have hW : Below w.heap.size w (((w.alloc (.cells #[.bool bA,.slice pA lA cA] 49)).alloc (.cells #[.bool bB,.slice pB lB cB] 49)).alloc (.cells #[.bool false,.slice none 0 0] 49)) := by go_grown
  have ra := (((RowR.new w (.bool bA) (.slice pA lA cA) (w.heap.size) rfl).alloc (.cells #[.bool bB,.slice pB lB cB] 49)).alloc (.cells #[.bool false,.slice none 0 0] 49))
  have rb := ((RowR.new (w.alloc (.cells #[.bool bA,.slice pA lA cA] 49)) (.bool bB) (.slice pB lB cB) (w.heap.size + 1) (by simp)).alloc (.cells #[.bool false,.slice none 0 0] 49))
  have rr := (RowR.new ((w.alloc (.cells #[.bool bA,.slice pA lA cA] 49)).alloc (.cells #[.bool bB,.slice pB lB cB] 49)) (.bool false) (.slice none 0 0) (w.heap.size + 1 + 1) (by simp))
  go_enter Tryz.func94, Tryz.ntmps94
  have a0 := ra.cell0
  have b0 := rb.cell0
  have a1 := ra.cell1
  have b1 := rb.cell1
  go_wp2_with fail
  clear a0 b0 a1 b1
  refine (hC _ hW).mono ?_
  rintro e wc ⟨rfl, hb⟩
  replace ra := ra.below hb ra.lt
  replace rb := rb.below hb rb.lt
  replace rr := rr.below hb rr.lt
  replace hW := hW.trans (hb.mono hW.size)
  clear hb hC
  go_wp2_with fail
  generalize wc = W at hW ra rb rr ⊢
  obtain ⟨q, hq⟩ : ∃ q, w.heap.size = q := ⟨_, rfl⟩
  rw [hq] at ra rb rr ⊢
  have zra := ra.lt
  have zrb := rb.lt
  have zrr := rr.lt
  have dra : q ≠ q + 1 + 1 := by omega
  have drb : q + 1 ≠ q + 1 + 1 := by omega
  have hqw : w.heap.size ≤ q + 1 + 1 := by omega
  have acc := Below.refl W.heap.size W
  have ra_0 := (ra.below acc zra).cell0
  have ra_1 := (ra.below acc zra).cell1
  have rb_0 := (rb.below acc zrb).cell0
  have rb_1 := (rb.below acc zrb).cell1
  have rr_0 := (rr.below acc zrr).cell0
  have rr_1 := (rr.below acc zrr).cell1
  have f0 := (rr.below acc zrr).free 0
  have f1 := (rr.below acc zrr).free 1
  go_region_held3 (fun w' => w'.cell? ⟨q, 0, none⟩ = some (.bool bA) ∧ w'.cell? ⟨q, 1, none⟩ = some (.slice pA lA cA) ∧ w'.cell? ⟨q + 1, 0, none⟩ = some (.bool bB) ∧ w'.cell? ⟨q + 1, 1, none⟩ = some (.slice pB lB cB))
    (first | with_reducible exact ⟨(ra.below acc zra).cell0,(ra.below acc zra).cell1,(rb.below acc zrb).cell0,(rb.below acc zrb).cell1⟩ | with_reducible exact ⟨(ra.below acc.drew zra).cell0,(ra.below acc.drew zra).cell1,(rb.below acc.drew zrb).cell0,(rb.below acc.drew zrb).cell1⟩ | with_reducible exact ⟨(((ra.below acc zra).other (a := ⟨q + 1 + 1,0,none⟩) dra _).other (a := ⟨q + 1 + 1,1,none⟩) dra _).cell0,(((ra.below acc zra).other (a := ⟨q + 1 + 1,0,none⟩) dra _).other (a := ⟨q + 1 + 1,1,none⟩) dra _).cell1,(((rb.below acc zrb).other (a := ⟨q + 1 + 1,0,none⟩) drb _).other (a := ⟨q + 1 + 1,1,none⟩) drb _).cell0,(((rb.below acc zrb).other (a := ⟨q + 1 + 1,0,none⟩) drb _).other (a := ⟨q + 1 + 1,1,none⟩) drb _).cell1⟩)
    (first
      | (go_at_call 124; (first | (have q1 := hM _ (hW.trans (acc.mono hW.size)); (with_reducible refine q1.mono ?_); clear q1) | (have q1 := hM _ (hW.trans (acc.drew.mono hW.size)); (with_reducible refine q1.mono ?_); clear q1)); rintro e wN ⟨s,rfl,hs,hb⟩; (first | replace acc := below_acc acc acc.size hb | replace acc := below_accD acc acc.size hb); clear hb; have ra_0 := (ra.below acc zra).cell0; have ra_1 := (ra.below acc zra).cell1; have rb_0 := (rb.below acc zrb).cell0; have rb_1 := (rb.below acc zrb).cell1; have rr_0 := (rr.below acc zrr).cell0; have rr_1 := (rr.below acc zrr).cell1; have f0 := (rr.below acc zrr).free 0; have f1 := (rr.below acc zrr).free 1)
      | (go_at_call 25; (first | (have q1 := hI _ _ hs; (with_reducible refine q1.mono ?_); clear q1) | (have q1 := hI _ _ hs.drewR; (with_reducible refine q1.mono ?_); clear q1)); rintro e wN ⟨b2,p2,l2,k2,rfl,Hbz,hn2,hb⟩; (first | replace acc := below_acc acc acc.size hb | replace acc := below_accD acc acc.size hb); clear hb; have ra_0 := (ra.below acc zra).cell0; have ra_1 := (ra.below acc zra).cell1; have rb_0 := (rb.below acc zrb).cell0; have rb_1 := (rb.below acc zrb).cell1; have rr_0 := (rr.below acc zrr).cell0; have rr_1 := (rr.below acc zrr).cell1; have f0 := (rr.below acc zrr).free 0; have f1 := (rr.below acc zrr).free 1))
  all_goals
    have hbw := hW.trans (acc.mono hW.size)
    have r2 := rr.below acc zrr
    have g3 := r2.set2 (.bool b2) (.slice p2 l2 k2)
    have hB3 := (hbw.setCell (p := ⟨q + 1 + 1,0,none⟩) hqw (.bool b2)).setCell (p := ⟨q + 1 + 1,1,none⟩) hqw (.slice p2 l2 k2)
    have hn3 := hn2.rowR r2 0 1 (.bool b2) (.slice p2 l2 k2)
    go_wp2_with fail
    exact bodyPost_R Tryz.results94 rfl rfl g3 Hbz.out hn3 hB3
theorem add_R (K : Nat) (hK : K ≤ 1048576) (u v : Value) (a b : Int) (w : World) (hu : IsR w u a) (hv : IsR w v b) (haK : absI a < lpw K) (hbK : absI b < lpw K) : Calls Tryz.prog 94 #[u, v] w (RetR (a + b) w) := by
  by_cases hs : decide (a < 0) = decide (b < 0)
  · exact add_R1 K hK u v a b w hu hv haK hbK hs
  · by_cases hle : absI b ≤ absI a
    · exact add_R2 K hK u v a b w hu hv haK hbK hs hle
    · exact add_R3 K hK u v a b w hu hv haK hbK hs (by omega)

set_option maxRecDepth 100000 in
set_option maxHeartbeats 2000000 in
theorem sub_R (K : Nat) (hK : K ≤ 1048576) (u v : Value) (a b : Int) (w : World) (hu : IsR w u a) (hv : IsR w v b) (haK : absI a < lpw K) (hbK : absI b < lpw K) : Calls Tryz.prog 56 #[u,v] w (RetR (a - b) w) := by
  obtain ⟨bA, pA, lA, cA, rfl⟩ := hu.shape
  obtain ⟨bB, pB, lB, cB, rfl⟩ := hv.shape
  have hN := fun W (h : Below w.heap.size w W) => neg_R (.agg #[.bool bB,.slice pB lB cB]) b W (hv.below h)
  have hM := fun s W (h : Below w.heap.size w W) (hs : IsR W s (-b)) => (add_R K hK (.agg #[.bool bA,.slice pA lA cA]) s a (-b) W (hu.below h) hs haK (by rw [absI_neg']; exact hbK)).mono fun _ _ h => h.shape
  rw [← Int.sub_eq_add_neg] at hM
  clear hu hv haK hbK
  have hW : Below w.heap.size w (((w.alloc (.cells #[.bool bA,.slice pA lA cA] 49)).alloc (.cells #[.bool bB,.slice pB lB cB] 49)).alloc (.cells #[.bool false,.slice none 0 0] 49)) := by go_grown
  have ra := (((RowR.new w (.bool bA) (.slice pA lA cA) (w.heap.size) rfl).alloc (.cells #[.bool bB,.slice pB lB cB] 49)).alloc (.cells #[.bool false,.slice none 0 0] 49))
  have rb := ((RowR.new (w.alloc (.cells #[.bool bA,.slice pA lA cA] 49)) (.bool bB) (.slice pB lB cB) (w.heap.size + 1) (by simp)).alloc (.cells #[.bool false,.slice none 0 0] 49))
  have rr := (RowR.new ((w.alloc (.cells #[.bool bA,.slice pA lA cA] 49)).alloc (.cells #[.bool bB,.slice pB lB cB] 49)) (.bool false) (.slice none 0 0) (w.heap.size + 1 + 1) (by simp))
  go_enter Tryz.func56, Tryz.ntmps56
  go_wp2_with fail
  generalize (((w.alloc (.cells #[.bool bA,.slice pA lA cA] 49)).alloc (.cells #[.bool bB,.slice pB lB cB] 49)).alloc (.cells #[.bool false,.slice none 0 0] 49)) = W at hW ra rb rr  ⊢
  obtain ⟨q, hq⟩ : ∃ q, w.heap.size = q := ⟨_, rfl⟩
  rw [hq] at ra rb rr ⊢
  have zra := ra.lt
  have zrb := rb.lt
  have zrr := rr.lt
  have dra : q ≠ q + 1 + 1 := by omega
  have drb : q + 1 ≠ q + 1 + 1 := by omega
  have hqw : w.heap.size ≤ q + 1 + 1 := by omega
  have acc := Below.refl W.heap.size W
  have ra_0 := (ra.below acc zra).cell0
  have ra_1 := (ra.below acc zra).cell1
  have rb_0 := (rb.below acc zrb).cell0
  have rb_1 := (rb.below acc zrb).cell1
  have rr_0 := (rr.below acc zrr).cell0
  have rr_1 := (rr.below acc zrr).cell1
  have f0 := (rr.below acc zrr).free 0
  have f1 := (rr.below acc zrr).free 1
  go_region_held3 (fun w' => w'.cell? ⟨q, 0, none⟩ = some (.bool bA) ∧ w'.cell? ⟨q, 1, none⟩ = some (.slice pA lA cA) ∧ w'.cell? ⟨q + 1, 0, none⟩ = some (.bool bB) ∧ w'.cell? ⟨q + 1, 1, none⟩ = some (.slice pB lB cB))
    (first | with_reducible exact ⟨(ra.below acc zra).cell0,(ra.below acc zra).cell1,(rb.below acc zrb).cell0,(rb.below acc zrb).cell1⟩ | with_reducible exact ⟨(ra.below acc.drew zra).cell0,(ra.below acc.drew zra).cell1,(rb.below acc.drew zrb).cell0,(rb.below acc.drew zrb).cell1⟩ | with_reducible exact ⟨(((ra.below acc zra).other (a := ⟨q + 1 + 1,0,none⟩) dra _).other (a := ⟨q + 1 + 1,1,none⟩) dra _).cell0,(((ra.below acc zra).other (a := ⟨q + 1 + 1,0,none⟩) dra _).other (a := ⟨q + 1 + 1,1,none⟩) dra _).cell1,(((rb.below acc zrb).other (a := ⟨q + 1 + 1,0,none⟩) drb _).other (a := ⟨q + 1 + 1,1,none⟩) drb _).cell0,(((rb.below acc zrb).other (a := ⟨q + 1 + 1,0,none⟩) drb _).other (a := ⟨q + 1 + 1,1,none⟩) drb _).cell1⟩)
    (first
      | (go_at_call 63; (first | (have q1 := hN _ (hW.trans (acc.mono hW.size)); (with_reducible refine q1.mono ?_); clear q1) | (have q1 := hN _ (hW.trans (acc.drew.mono hW.size)); (with_reducible refine q1.mono ?_); clear q1)); rintro e wN ⟨s,rfl,hs,hb⟩; (first | replace acc := below_acc acc acc.size hb | replace acc := below_accD acc acc.size hb); clear hb; have ra_0 := (ra.below acc zra).cell0; have ra_1 := (ra.below acc zra).cell1; have rb_0 := (rb.below acc zrb).cell0; have rb_1 := (rb.below acc zrb).cell1; have rr_0 := (rr.below acc zrr).cell0; have rr_1 := (rr.below acc zrr).cell1; have f0 := (rr.below acc zrr).free 0; have f1 := (rr.below acc zrr).free 1)
      | (go_at_call 94; (first | (have q1 := hM _ _ (hW.trans (acc.mono hW.size)) hs; (with_reducible refine q1.mono ?_); clear q1) | (have q1 := hM _ _ (hW.trans (acc.drew.mono hW.size)) hs.drew; (with_reducible refine q1.mono ?_); clear q1)); rintro e wN ⟨b2,p2,l2,k2,rfl,Hbz,hn2,hb⟩; (first | replace acc := below_acc acc acc.size hb | replace acc := below_accD acc acc.size hb); clear hb; have ra_0 := (ra.below acc zra).cell0; have ra_1 := (ra.below acc zra).cell1; have rb_0 := (rb.below acc zrb).cell0; have rb_1 := (rb.below acc zrb).cell1; have rr_0 := (rr.below acc zrr).cell0; have rr_1 := (rr.below acc zrr).cell1; have f0 := (rr.below acc zrr).free 0; have f1 := (rr.below acc zrr).free 1))
  all_goals
    have hbw := hW.trans (acc.mono hW.size)
    have r2 := rr.below acc zrr
    have g3 := r2.set2 (.bool b2) (.slice p2 l2 k2)
    have hB3 := (hbw.setCell (p := ⟨q + 1 + 1,0,none⟩) hqw (.bool b2)).setCell (p := ⟨q + 1 + 1,1,none⟩) hqw (.slice p2 l2 k2)
    have hn3 := hn2.rowR r2 0 1 (.bool b2) (.slice p2 l2 k2)
    go_wp2_with fail
    exact bodyPost_R Tryz.results56 rfl rfl g3 Hbz.out hn3 hB3
set_option maxRecDepth 100000 in
set_option maxHeartbeats 2000000 in
theorem sign_R (u : Value) (z : Int) (w : World) (hu : IsR w u z) : Calls Tryz.prog 62 #[u] w fun e w' => e = .returned (.int .i64 (sgnI z)) ∧ Below w.heap.size w w' := by
  obtain ⟨bA, pA, lA, cA, rfl, hbA, hA⟩ := hu
  obtain ⟨_, l', _, he, hl, hm⟩ := hA.shape2
  simp only [Value.slice.injEq] at he
  obtain ⟨-, hl', -⟩ := he
  rw [← hl'] at hl hm
  have hl0 : (lA : Int) = 0 ↔ z = 0 := by
    have h1 := absI_nonneg z
    constructor
    · intro h
      have h2 : ¬ 0 < lA := by omega
      have h3 : ¬ 0 < absI z := fun h => h2 (hl.2 h)
      unfold absI at h3 h1; split at h3 <;> omega
    · rintro rfl
      have h3 : ¬ 0 < absI 0 := by decide
      have h2 : ¬ 0 < lA := fun h => h3 (hl.1 h)
      omega
  have hW : Below w.heap.size w (w.alloc (.cells #[.bool bA,.slice pA lA cA] 49)) := by go_grown
  have ra := RowR.new w (.bool bA) (.slice pA lA cA) _ rfl
  have a0 := ra.cell0
  have a1 := ra.cell1
  clear hA hl hl' ra
  by_cases h0 : z = 0
  · have hl1 := hl0.2 h0
    have hs : sgnI z = 0 := sgnI_zero h0
    rw [hs]
    have hl2 : lA = 0 := by omega
    subst hl2
    clear hl0 hs hbA h0
    go_enter Tryz.func62, Tryz.ntmps62
    go_wp2
    go_ret
    exact ⟨rfl, hW⟩
  · have hl1 : ¬ (lA : Int) = 0 := fun h => h0 (hl0.1 h)
    have hl3 : ((lA : Int) == 0) = false := by simpa using hl1
    clear hl0
    by_cases h1 : z < 0
    · rw [show sgnI z = -1 by unfold sgnI; rw [if_pos h1]]
      have e : bA = true := by rw [hbA]; simpa using h1
      subst e
      clear hbA h1 h0
      go_enter Tryz.func62, Tryz.ntmps62
      go_wp2
      go_ret
      exact ⟨rfl, hW⟩
    · rw [show sgnI z = 1 by unfold sgnI; rw [if_neg h1, if_neg h0]]
      have e : bA = false := by rw [hbA]; simpa using h1
      subst e
      clear hbA h1 h0
      go_enter Tryz.func62, Tryz.ntmps62
      go_wp2
      go_ret
      exact ⟨rfl, hW⟩
theorem sgn_cmp (a b : Int) : sgnI (a - b) = cmpI a b := by
  unfold sgnI cmpI
  by_cases h1 : a < b
  · rw [if_pos (by omega), if_pos h1]
  · rw [if_neg (by omega), if_neg h1]
    by_cases h2 : b < a
    · rw [if_neg (by omega), if_pos h2]
    · rw [if_pos (by omega), if_neg h2]

end Go.Proofs.YtogildikglomkaaGreatDoor
