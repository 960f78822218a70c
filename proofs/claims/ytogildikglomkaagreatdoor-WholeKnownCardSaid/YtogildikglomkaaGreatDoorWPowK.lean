/- whole: powers; Pick; Few of a few. (gen_wpowk.py) -/
import Derived.Test.YtogildikglomkaaGreatDoorWhoLaw
import Derived.Test.YtogildikglomkaaGreatDoorPow
namespace Go.Proofs.YtogildikglomkaaGreatDoor
open Go.RowKit
set_option linter.unusedVariables false

set_option maxRecDepth 100000 in
set_option maxHeartbeats 2000000 in
theorem ipow_core (bA F : Bool) (R : Int) (hR : R = 0 ∨ R = 1) (N : Nat) (hN : N ≤ 14) (hr : (N : Int).tmod 2 = R) (hF : F = (bA && decide (R = 1))) (x : Int) (p : Option Addr) (l c : Nat) (n Z : Int) (w : World) (hx : IsNat w (.agg #[.int .u64 x,.slice p l c]) n) (hn : n < pw 2) (hZ : (if F = true then -(n ^ N) else n ^ N) = Z) : Calls Tryz.prog 12 #[.agg #[.bool bA,.int .u64 x,.slice p l c],.int .i64 N] w fun e w' => ∃ v', e = .returned (.tuple #[v',.bool true]) ∧ IsInt w' v' Z ∧ Below w.heap.size w w' := by
  have hP := fun W (h : Below w.heap.size w W) => pow_any 2 (by decide) N (by omega) (by decide) (by omega) _ n W (hx.below h) hn
  have hFr := fun v W (h : IsNat W v (n ^ N)) => from_int F v (n ^ N) W h
  rw [hZ] at hFr
  have hN0 : (0 : Int) ≤ (N : Int) := by omega
  have hN1 : (N : Int) ≤ 14 := by omega
  have hW : Below w.heap.size w ((w.alloc (.cells #[.bool bA,.int .u64 x,.slice p l c] 27)).alloc (.cells #[.bool false,.int .u64 0,.slice none 0 0] 27)) := by go_grown
  have ra := (Row3.new w (.bool bA) (.int .u64 x) (.slice p l c) w.heap.size rfl).alloc (.cells #[.bool false,.int .u64 0,.slice none 0 0] 27)
  have rr := Row3.new (w.alloc (.cells #[.bool bA,.int .u64 x,.slice p l c] 27)) (.bool false) (.int .u64 0) (.slice none 0 0) (w.heap.size + 1) (by simp)
  clear hx hZ hn
  rcases hR with rfl | rfl <;> cases bA
  · obtain rfl : F = false := hF.trans (by decide)
    clear hF
    go_enter Tryz.func12, Tryz.ntmps12
    have a1 := ra.cell1
    have a2 := ra.cell2
    go_wp2_with fail
    clear a1 a2
    refine (hP _ hW).mono ?_
    rintro e w1 ⟨v, rfl, hv, hb⟩
    obtain ⟨y, r, m, d, rfl⟩ := hv.shape
    have hb2 : Below w1.heap.size w1 (w1.alloc (.cells #[.int .u64 y,.slice r m d] 25)) := by go_grown
    have u6 := Var.new w1 w1.heap.size (.int .u64 y) r m d rfl
    replace ra := (ra.below hb ra.lt).below hb2 (ra.below hb ra.lt).lt
    replace rr := (rr.below hb rr.lt).below hb2 (rr.below hb rr.lt).lt
    replace hv := hv.below hb2
    have hB := (hW.trans (hb.mono hW.size)).trans (hb2.mono (hW.trans (hb.mono hW.size)).size)
    clear hb hb2 hW hP
    have a0 := ra.cell0
    have h6 := u6.c0
    have h7 := u6.c1
    go_wp2_with fail
    clear a0 h6 h7
    refine (hFr _ _ hv).mono ?_
    rintro e w2 ⟨u, rfl, ⟨x2, p2, l2, k2, rfl, hn2⟩, hb⟩
    replace rr := rr.below hb rr.lt
    replace hB := hB.trans (hb.mono hB.size)
    clear hb ra u6 hFr
    have c0 := rr.cell0
    have c1 := rr.cell1
    have c2 := rr.cell2
    have f0 := rr.free 0
    have f1 := rr.free 1
    have f2 := rr.free 2
    have hq : w.heap.size ≤ w.heap.size + 1 := by omega
    have g3 := rr.set3 (.bool (decide (Z < 0))) (.int .u64 x2) (.slice p2 l2 k2)
    have hB3 := ((hB.setCell (p := ⟨w.heap.size + 1,0,none⟩) hq (.bool (decide (Z < 0)))).setCell (p := ⟨w.heap.size + 1,1,none⟩) hq (.int .u64 x2)).setCell (p := ⟨w.heap.size + 1,2,none⟩) hq (.slice p2 l2 k2)
    have hn3 := hn2.row3 rr (.bool (decide (Z < 0))) (.int .u64 x2) (.slice p2 l2 k2)
    go_wp2_with fail
    refine bodyPost_ret (v := .tuple #[.agg #[.bool (decide (Z < 0)),.int .u64 x2,.slice p2 l2 k2],.bool true]) ?_ rfl ⟨_, rfl, ⟨_, _, _, _, rfl, hn3⟩, hB3⟩
    simp [results, Tryz.results12, asAddr, run_loadVar_int g3]
  · obtain rfl : F = false := hF.trans (by decide)
    clear hF
    go_enter Tryz.func12, Tryz.ntmps12
    have a1 := ra.cell1
    have a2 := ra.cell2
    go_wp2_with fail
    clear a1 a2
    refine (hP _ hW).mono ?_
    rintro e w1 ⟨v, rfl, hv, hb⟩
    obtain ⟨y, r, m, d, rfl⟩ := hv.shape
    have hb2 : Below w1.heap.size w1 (w1.alloc (.cells #[.int .u64 y,.slice r m d] 25)) := by go_grown
    have u6 := Var.new w1 w1.heap.size (.int .u64 y) r m d rfl
    replace ra := (ra.below hb ra.lt).below hb2 (ra.below hb ra.lt).lt
    replace rr := (rr.below hb rr.lt).below hb2 (rr.below hb rr.lt).lt
    replace hv := hv.below hb2
    have hB := (hW.trans (hb.mono hW.size)).trans (hb2.mono (hW.trans (hb.mono hW.size)).size)
    clear hb hb2 hW hP
    have a0 := ra.cell0
    have h6 := u6.c0
    have h7 := u6.c1
    go_wp2_with fail
    clear a0 h6 h7
    refine (hFr _ _ hv).mono ?_
    rintro e w2 ⟨u, rfl, ⟨x2, p2, l2, k2, rfl, hn2⟩, hb⟩
    replace rr := rr.below hb rr.lt
    replace hB := hB.trans (hb.mono hB.size)
    clear hb ra u6 hFr
    have c0 := rr.cell0
    have c1 := rr.cell1
    have c2 := rr.cell2
    have f0 := rr.free 0
    have f1 := rr.free 1
    have f2 := rr.free 2
    have hq : w.heap.size ≤ w.heap.size + 1 := by omega
    have g3 := rr.set3 (.bool (decide (Z < 0))) (.int .u64 x2) (.slice p2 l2 k2)
    have hB3 := ((hB.setCell (p := ⟨w.heap.size + 1,0,none⟩) hq (.bool (decide (Z < 0)))).setCell (p := ⟨w.heap.size + 1,1,none⟩) hq (.int .u64 x2)).setCell (p := ⟨w.heap.size + 1,2,none⟩) hq (.slice p2 l2 k2)
    have hn3 := hn2.row3 rr (.bool (decide (Z < 0))) (.int .u64 x2) (.slice p2 l2 k2)
    go_wp2_with fail
    refine bodyPost_ret (v := .tuple #[.agg #[.bool (decide (Z < 0)),.int .u64 x2,.slice p2 l2 k2],.bool true]) ?_ rfl ⟨_, rfl, ⟨_, _, _, _, rfl, hn3⟩, hB3⟩
    simp [results, Tryz.results12, asAddr, run_loadVar_int g3]
  · obtain rfl : F = false := hF.trans (by decide)
    clear hF
    go_enter Tryz.func12, Tryz.ntmps12
    have a1 := ra.cell1
    have a2 := ra.cell2
    go_wp2_with fail
    clear a1 a2
    refine (hP _ hW).mono ?_
    rintro e w1 ⟨v, rfl, hv, hb⟩
    obtain ⟨y, r, m, d, rfl⟩ := hv.shape
    have hb2 : Below w1.heap.size w1 (w1.alloc (.cells #[.int .u64 y,.slice r m d] 25)) := by go_grown
    have u6 := Var.new w1 w1.heap.size (.int .u64 y) r m d rfl
    replace ra := (ra.below hb ra.lt).below hb2 (ra.below hb ra.lt).lt
    replace rr := (rr.below hb rr.lt).below hb2 (rr.below hb rr.lt).lt
    replace hv := hv.below hb2
    have hB := (hW.trans (hb.mono hW.size)).trans (hb2.mono (hW.trans (hb.mono hW.size)).size)
    clear hb hb2 hW hP
    have a0 := ra.cell0
    have h6 := u6.c0
    have h7 := u6.c1
    go_wp2_with fail
    clear a0 h6 h7
    refine (hFr _ _ hv).mono ?_
    rintro e w2 ⟨u, rfl, ⟨x2, p2, l2, k2, rfl, hn2⟩, hb⟩
    replace rr := rr.below hb rr.lt
    replace hB := hB.trans (hb.mono hB.size)
    clear hb ra u6 hFr
    have c0 := rr.cell0
    have c1 := rr.cell1
    have c2 := rr.cell2
    have f0 := rr.free 0
    have f1 := rr.free 1
    have f2 := rr.free 2
    have hq : w.heap.size ≤ w.heap.size + 1 := by omega
    have g3 := rr.set3 (.bool (decide (Z < 0))) (.int .u64 x2) (.slice p2 l2 k2)
    have hB3 := ((hB.setCell (p := ⟨w.heap.size + 1,0,none⟩) hq (.bool (decide (Z < 0)))).setCell (p := ⟨w.heap.size + 1,1,none⟩) hq (.int .u64 x2)).setCell (p := ⟨w.heap.size + 1,2,none⟩) hq (.slice p2 l2 k2)
    have hn3 := hn2.row3 rr (.bool (decide (Z < 0))) (.int .u64 x2) (.slice p2 l2 k2)
    go_wp2_with fail
    refine bodyPost_ret (v := .tuple #[.agg #[.bool (decide (Z < 0)),.int .u64 x2,.slice p2 l2 k2],.bool true]) ?_ rfl ⟨_, rfl, ⟨_, _, _, _, rfl, hn3⟩, hB3⟩
    simp [results, Tryz.results12, asAddr, run_loadVar_int g3]
  · obtain rfl : F = true := hF.trans (by decide)
    clear hF
    go_enter Tryz.func12, Tryz.ntmps12
    have a1 := ra.cell1
    have a2 := ra.cell2
    go_wp2_with fail
    clear a1 a2
    refine (hP _ hW).mono ?_
    rintro e w1 ⟨v, rfl, hv, hb⟩
    obtain ⟨y, r, m, d, rfl⟩ := hv.shape
    have hb2 : Below w1.heap.size w1 (w1.alloc (.cells #[.int .u64 y,.slice r m d] 25)) := by go_grown
    have u6 := Var.new w1 w1.heap.size (.int .u64 y) r m d rfl
    replace ra := (ra.below hb ra.lt).below hb2 (ra.below hb ra.lt).lt
    replace rr := (rr.below hb rr.lt).below hb2 (rr.below hb rr.lt).lt
    replace hv := hv.below hb2
    have hB := (hW.trans (hb.mono hW.size)).trans (hb2.mono (hW.trans (hb.mono hW.size)).size)
    clear hb hb2 hW hP
    have a0 := ra.cell0
    have h6 := u6.c0
    have h7 := u6.c1
    go_wp2_with fail
    clear a0 h6 h7
    refine (hFr _ _ hv).mono ?_
    rintro e w2 ⟨u, rfl, ⟨x2, p2, l2, k2, rfl, hn2⟩, hb⟩
    replace rr := rr.below hb rr.lt
    replace hB := hB.trans (hb.mono hB.size)
    clear hb ra u6 hFr
    have c0 := rr.cell0
    have c1 := rr.cell1
    have c2 := rr.cell2
    have f0 := rr.free 0
    have f1 := rr.free 1
    have f2 := rr.free 2
    have hq : w.heap.size ≤ w.heap.size + 1 := by omega
    have g3 := rr.set3 (.bool (decide (Z < 0))) (.int .u64 x2) (.slice p2 l2 k2)
    have hB3 := ((hB.setCell (p := ⟨w.heap.size + 1,0,none⟩) hq (.bool (decide (Z < 0)))).setCell (p := ⟨w.heap.size + 1,1,none⟩) hq (.int .u64 x2)).setCell (p := ⟨w.heap.size + 1,2,none⟩) hq (.slice p2 l2 k2)
    have hn3 := hn2.row3 rr (.bool (decide (Z < 0))) (.int .u64 x2) (.slice p2 l2 k2)
    go_wp2_with fail
    refine bodyPost_ret (v := .tuple #[.agg #[.bool (decide (Z < 0)),.int .u64 x2,.slice p2 l2 k2],.bool true]) ?_ rfl ⟨_, rfl, ⟨_, _, _, _, rfl, hn3⟩, hB3⟩
    simp [results, Tryz.results12, asAddr, run_loadVar_int g3]
set_option maxRecDepth 100000 in
set_option maxHeartbeats 2000000 in
theorem ipow_neg (bA F : Bool) (R : Int) (hR : R = 0 ∨ R = -1) (z : Int) (hz : z < 0) (hz2 : -9223372036854775808 ≤ z) (hr : z.tmod 2 = R) (hF : F = (bA && decide (R = 1))) (x : Int) (p : Option Addr) (l c : Nat) (n Z : Int) (w : World) (hx : IsNat w (.agg #[.int .u64 x,.slice p l c]) n) (hZ : Z = 0) : Calls Tryz.prog 12 #[.agg #[.bool bA,.int .u64 x,.slice p l c],.int .i64 z] w fun e w' => ∃ v', e = .returned (.tuple #[v',.bool false]) ∧ IsInt w' v' Z ∧ Below w.heap.size w w' := by
  have hP := fun W (h : Below w.heap.size w W) => pow_neg _ n z hz W (hx.below h)
  have hFr : ∀ W, Calls Tryz.prog 19 #[.bool F,.agg #[.int .u64 0,.slice none 0 0]] W (RetInt Z W) := fun W => by
    have h := from_int F _ 0 W (IsNat.word ⟨by decide, by decide⟩)
    rw [show (if F = true then -(0 : Int) else 0) = Z by rw [hZ]; split <;> rfl] at h
    exact h
  have hW : Below w.heap.size w ((w.alloc (.cells #[.bool bA,.int .u64 x,.slice p l c] 27)).alloc (.cells #[.bool false,.int .u64 0,.slice none 0 0] 27)) := by go_grown
  have ra := (Row3.new w (.bool bA) (.int .u64 x) (.slice p l c) w.heap.size rfl).alloc (.cells #[.bool false,.int .u64 0,.slice none 0 0] 27)
  have rr := Row3.new (w.alloc (.cells #[.bool bA,.int .u64 x,.slice p l c] 27)) (.bool false) (.int .u64 0) (.slice none 0 0) (w.heap.size + 1) (by simp)
  clear hx hZ
  rcases hR with rfl | rfl <;> cases bA
  · obtain rfl : F = false := hF.trans (by decide)
    clear hF
    go_enter Tryz.func12, Tryz.ntmps12
    have a1 := ra.cell1
    have a2 := ra.cell2
    go_wp2_with fail
    clear a1 a2
    refine (hP _ hW).mono ?_
    rintro e w1 ⟨rfl, hb⟩
    have hb2 : Below w1.heap.size w1 (w1.alloc (.cells #[.int .u64 0,.slice none 0 0] 25)) := by go_grown
    have u6 := Var.new w1 w1.heap.size (.int .u64 0) none 0 0 rfl
    replace ra := (ra.below hb ra.lt).below hb2 (ra.below hb ra.lt).lt
    replace rr := (rr.below hb rr.lt).below hb2 (rr.below hb rr.lt).lt
    have hB := (hW.trans (hb.mono hW.size)).trans (hb2.mono (hW.trans (hb.mono hW.size)).size)
    clear hb hb2 hW hP
    have a0 := ra.cell0
    have h6 := u6.c0
    have h7 := u6.c1
    go_wp2_with fail
    clear a0 h6 h7
    refine (hFr _).mono ?_
    rintro e w2 ⟨u, rfl, ⟨x2, p2, l2, k2, rfl, hn2⟩, hb⟩
    replace rr := rr.below hb rr.lt
    replace hB := hB.trans (hb.mono hB.size)
    clear hb ra u6 hFr
    have c0 := rr.cell0
    have c1 := rr.cell1
    have c2 := rr.cell2
    have f0 := rr.free 0
    have f1 := rr.free 1
    have f2 := rr.free 2
    have hq : w.heap.size ≤ w.heap.size + 1 := by omega
    have g3 := rr.set3 (.bool (decide (Z < 0))) (.int .u64 x2) (.slice p2 l2 k2)
    have hB3 := ((hB.setCell (p := ⟨w.heap.size + 1,0,none⟩) hq (.bool (decide (Z < 0)))).setCell (p := ⟨w.heap.size + 1,1,none⟩) hq (.int .u64 x2)).setCell (p := ⟨w.heap.size + 1,2,none⟩) hq (.slice p2 l2 k2)
    have hn3 := hn2.row3 rr (.bool (decide (Z < 0))) (.int .u64 x2) (.slice p2 l2 k2)
    go_wp2_with fail
    refine bodyPost_ret (v := .tuple #[.agg #[.bool (decide (Z < 0)),.int .u64 x2,.slice p2 l2 k2],.bool false]) ?_ rfl ⟨_, rfl, ⟨_, _, _, _, rfl, hn3⟩, hB3⟩
    simp [results, Tryz.results12, asAddr, run_loadVar_int g3]
  · obtain rfl : F = false := hF.trans (by decide)
    clear hF
    go_enter Tryz.func12, Tryz.ntmps12
    have a1 := ra.cell1
    have a2 := ra.cell2
    go_wp2_with fail
    clear a1 a2
    refine (hP _ hW).mono ?_
    rintro e w1 ⟨rfl, hb⟩
    have hb2 : Below w1.heap.size w1 (w1.alloc (.cells #[.int .u64 0,.slice none 0 0] 25)) := by go_grown
    have u6 := Var.new w1 w1.heap.size (.int .u64 0) none 0 0 rfl
    replace ra := (ra.below hb ra.lt).below hb2 (ra.below hb ra.lt).lt
    replace rr := (rr.below hb rr.lt).below hb2 (rr.below hb rr.lt).lt
    have hB := (hW.trans (hb.mono hW.size)).trans (hb2.mono (hW.trans (hb.mono hW.size)).size)
    clear hb hb2 hW hP
    have a0 := ra.cell0
    have h6 := u6.c0
    have h7 := u6.c1
    go_wp2_with fail
    clear a0 h6 h7
    refine (hFr _).mono ?_
    rintro e w2 ⟨u, rfl, ⟨x2, p2, l2, k2, rfl, hn2⟩, hb⟩
    replace rr := rr.below hb rr.lt
    replace hB := hB.trans (hb.mono hB.size)
    clear hb ra u6 hFr
    have c0 := rr.cell0
    have c1 := rr.cell1
    have c2 := rr.cell2
    have f0 := rr.free 0
    have f1 := rr.free 1
    have f2 := rr.free 2
    have hq : w.heap.size ≤ w.heap.size + 1 := by omega
    have g3 := rr.set3 (.bool (decide (Z < 0))) (.int .u64 x2) (.slice p2 l2 k2)
    have hB3 := ((hB.setCell (p := ⟨w.heap.size + 1,0,none⟩) hq (.bool (decide (Z < 0)))).setCell (p := ⟨w.heap.size + 1,1,none⟩) hq (.int .u64 x2)).setCell (p := ⟨w.heap.size + 1,2,none⟩) hq (.slice p2 l2 k2)
    have hn3 := hn2.row3 rr (.bool (decide (Z < 0))) (.int .u64 x2) (.slice p2 l2 k2)
    go_wp2_with fail
    refine bodyPost_ret (v := .tuple #[.agg #[.bool (decide (Z < 0)),.int .u64 x2,.slice p2 l2 k2],.bool false]) ?_ rfl ⟨_, rfl, ⟨_, _, _, _, rfl, hn3⟩, hB3⟩
    simp [results, Tryz.results12, asAddr, run_loadVar_int g3]
  · obtain rfl : F = false := hF.trans (by decide)
    clear hF
    go_enter Tryz.func12, Tryz.ntmps12
    have a1 := ra.cell1
    have a2 := ra.cell2
    go_wp2_with fail
    clear a1 a2
    refine (hP _ hW).mono ?_
    rintro e w1 ⟨rfl, hb⟩
    have hb2 : Below w1.heap.size w1 (w1.alloc (.cells #[.int .u64 0,.slice none 0 0] 25)) := by go_grown
    have u6 := Var.new w1 w1.heap.size (.int .u64 0) none 0 0 rfl
    replace ra := (ra.below hb ra.lt).below hb2 (ra.below hb ra.lt).lt
    replace rr := (rr.below hb rr.lt).below hb2 (rr.below hb rr.lt).lt
    have hB := (hW.trans (hb.mono hW.size)).trans (hb2.mono (hW.trans (hb.mono hW.size)).size)
    clear hb hb2 hW hP
    have a0 := ra.cell0
    have h6 := u6.c0
    have h7 := u6.c1
    go_wp2_with fail
    clear a0 h6 h7
    refine (hFr _).mono ?_
    rintro e w2 ⟨u, rfl, ⟨x2, p2, l2, k2, rfl, hn2⟩, hb⟩
    replace rr := rr.below hb rr.lt
    replace hB := hB.trans (hb.mono hB.size)
    clear hb ra u6 hFr
    have c0 := rr.cell0
    have c1 := rr.cell1
    have c2 := rr.cell2
    have f0 := rr.free 0
    have f1 := rr.free 1
    have f2 := rr.free 2
    have hq : w.heap.size ≤ w.heap.size + 1 := by omega
    have g3 := rr.set3 (.bool (decide (Z < 0))) (.int .u64 x2) (.slice p2 l2 k2)
    have hB3 := ((hB.setCell (p := ⟨w.heap.size + 1,0,none⟩) hq (.bool (decide (Z < 0)))).setCell (p := ⟨w.heap.size + 1,1,none⟩) hq (.int .u64 x2)).setCell (p := ⟨w.heap.size + 1,2,none⟩) hq (.slice p2 l2 k2)
    have hn3 := hn2.row3 rr (.bool (decide (Z < 0))) (.int .u64 x2) (.slice p2 l2 k2)
    go_wp2_with fail
    refine bodyPost_ret (v := .tuple #[.agg #[.bool (decide (Z < 0)),.int .u64 x2,.slice p2 l2 k2],.bool false]) ?_ rfl ⟨_, rfl, ⟨_, _, _, _, rfl, hn3⟩, hB3⟩
    simp [results, Tryz.results12, asAddr, run_loadVar_int g3]
  · obtain rfl : F = false := hF.trans (by decide)
    clear hF
    go_enter Tryz.func12, Tryz.ntmps12
    have a1 := ra.cell1
    have a2 := ra.cell2
    go_wp2_with fail
    clear a1 a2
    refine (hP _ hW).mono ?_
    rintro e w1 ⟨rfl, hb⟩
    have hb2 : Below w1.heap.size w1 (w1.alloc (.cells #[.int .u64 0,.slice none 0 0] 25)) := by go_grown
    have u6 := Var.new w1 w1.heap.size (.int .u64 0) none 0 0 rfl
    replace ra := (ra.below hb ra.lt).below hb2 (ra.below hb ra.lt).lt
    replace rr := (rr.below hb rr.lt).below hb2 (rr.below hb rr.lt).lt
    have hB := (hW.trans (hb.mono hW.size)).trans (hb2.mono (hW.trans (hb.mono hW.size)).size)
    clear hb hb2 hW hP
    have a0 := ra.cell0
    have h6 := u6.c0
    have h7 := u6.c1
    go_wp2_with fail
    clear a0 h6 h7
    refine (hFr _).mono ?_
    rintro e w2 ⟨u, rfl, ⟨x2, p2, l2, k2, rfl, hn2⟩, hb⟩
    replace rr := rr.below hb rr.lt
    replace hB := hB.trans (hb.mono hB.size)
    clear hb ra u6 hFr
    have c0 := rr.cell0
    have c1 := rr.cell1
    have c2 := rr.cell2
    have f0 := rr.free 0
    have f1 := rr.free 1
    have f2 := rr.free 2
    have hq : w.heap.size ≤ w.heap.size + 1 := by omega
    have g3 := rr.set3 (.bool (decide (Z < 0))) (.int .u64 x2) (.slice p2 l2 k2)
    have hB3 := ((hB.setCell (p := ⟨w.heap.size + 1,0,none⟩) hq (.bool (decide (Z < 0)))).setCell (p := ⟨w.heap.size + 1,1,none⟩) hq (.int .u64 x2)).setCell (p := ⟨w.heap.size + 1,2,none⟩) hq (.slice p2 l2 k2)
    have hn3 := hn2.row3 rr (.bool (decide (Z < 0))) (.int .u64 x2) (.slice p2 l2 k2)
    go_wp2_with fail
    refine bodyPost_ret (v := .tuple #[.agg #[.bool (decide (Z < 0)),.int .u64 x2,.slice p2 l2 k2],.bool false]) ?_ rfl ⟨_, rfl, ⟨_, _, _, _, rfl, hn3⟩, hB3⟩
    simp [results, Tryz.results12, asAddr, run_loadVar_int g3]
theorem pick_w (x m : Int) (hx : -9223372036854775808 ≤ x) (hx2 : x ≤ 9223372036854775807) (hm : 0 < m) (hm2 : m ≤ 4611686018427387904) (w : World) :
    Calls Tryz.prog 22 #[.int .i64 x, .int .i64 m] w fun e w' => (∃ p : Nat, (p : Int) < m ∧ e = .returned (.int .i64 p)) ∧ w = w' := by
  have h1 : -m < x.tmod m := by
    have := Int.tmod_lt_of_pos (-x) hm
    rw [Int.neg_tmod] at this
    omega
  have h2 : x.tmod m < m := Int.tmod_lt_of_pos x hm
  have hz : (m == 0) = false := by simp; omega
  obtain ⟨t, ht⟩ : ∃ t, x.tmod m = t := ⟨_, rfl⟩
  rw [ht] at h1 h2
  by_cases hneg : t < 0
  · obtain ⟨p, hp⟩ := Int.eq_ofNat_of_zero_le (show 0 ≤ t + m by omega)
    have hp2 : (p : Int) < m := by omega
    have hge : -4611686018427387904 ≤ t := by omega
    have Hp2 := Lib.hid hp2
    clear hp2
    go_enter Tryz.func22, Tryz.ntmps22
    go_wp2_with fail
    go_ret
    exact ⟨⟨p, Hp2.out, by first | rfl | (congr 2)⟩, rfl⟩
  · obtain ⟨p, rfl⟩ := Int.eq_ofNat_of_zero_le (show 0 ≤ t by omega)
    have hge : (0 : Int) ≤ (p : Int) := by omega
    go_enter Tryz.func22, Tryz.ntmps22
    go_wp2_with fail
    go_ret
    exact ⟨⟨p, h2, by first | rfl | (congr 2)⟩, rfl⟩
theorem ipow_int (N : Nat) (hN : N ≤ 14) (v : Value) (z : Int) (w : World) (h : IsInt w v z) (hz : absI z < pw 2) : Calls Tryz.prog 12 #[v,.int .i64 N] w fun e w' => ∃ v', e = .returned (.tuple #[v',.bool true]) ∧ IsInt w' v' (z ^ N) ∧ Below w.heap.size w w' := by
  obtain ⟨x, p, l, c, rfl, hn⟩ := h
  have hr : (N : Int).tmod 2 = ((N % 2 : Nat) : Int) := by rw [Int.tmod_eq_emod_of_nonneg (by omega)]; omega
  refine ipow_core (decide (z < 0)) (decide (z < 0) && decide (((N % 2 : Nat) : Int) = 1)) ((N % 2 : Nat) : Int) (by omega) N hN hr rfl x p l c (absI z) _ w hn hz ?_
  by_cases h0 : z < 0
  · have e : z = -absI z := by unfold absI; rw [if_pos h0]; omega
    have e2 : (-absI z) ^ 2 = absI z ^ 2 := by simp [Int.pow_succ, Int.pow_zero, Int.neg_mul_neg]
    rcases Nat.mod_two_eq_zero_or_one N with h1 | h1
    · rw [h1]; simp [h0]
      obtain ⟨k, rfl⟩ : ∃ k, N = 2 * k := ⟨N / 2, by omega⟩
      conv => rhs; rw [e]
      rw [Int.pow_mul, Int.pow_mul, e2]
    · rw [h1]; simp [h0]
      obtain ⟨k, rfl⟩ : ∃ k, N = 2 * k + 1 := ⟨N / 2, by omega⟩
      conv => rhs; rw [e]
      rw [Int.pow_succ, Int.pow_succ, Int.pow_mul, Int.pow_mul, e2, Int.mul_neg]
  · have e : absI z = z := by unfold absI; rw [if_neg h0]
    simp [h0, e]
theorem ipow_none (z0 : Int) (h0 : z0 < 0) (h1 : -9223372036854775808 ≤ z0) (v : Value) (z : Int) (w : World) (h : IsInt w v z) : Calls Tryz.prog 12 #[v,.int .i64 z0] w fun e w' => ∃ v', e = .returned (.tuple #[v',.bool false]) ∧ IsInt w' v' 0 ∧ Below w.heap.size w w' := by
  obtain ⟨x, p, l, c, rfl, hn⟩ := h
  have hr := Int.tmod_lt_of_pos (-z0) (show (0 : Int) < 2 by decide)
  have hr2 : 0 ≤ (-z0).tmod 2 := Int.tmod_nonneg _ (by omega)
  rw [Int.neg_tmod] at hr hr2
  exact ipow_neg (decide (z < 0)) _ (z0.tmod 2) (by omega) z0 h0 h1 rfl rfl x p l c (absI z) 0 w hn rfl
end Go.Proofs.YtogildikglomkaaGreatDoor
