/- whole: size,word,top. whole: sureSteps of 6 and 4,and of 4 and 2. whole: mulAdd of 6 and 4. whole: euclid's trim,tops,by: of 6 and 4,and of 4 and 2. whole: euclid's by: of 6 and 4. whole: wordsOf of a small number. -/
import Derived.Test.YtogildikglomkaaGreatDoorWhoH
import Derived.Deep.QuietTactic
import Derived.BigQuiet
import Derived.Deep.LoopGhost
import Derived.Test.YtogildikglomkaaGreatDoorMulAdd
import Derived.Test.YtogildikglomkaaGreatDoorDivWords
import Derived.Deep.RegionHeld3
import Derived.Test.YtogildikglomkaaGreatDoorBytes
namespace Go.Proofs.YtogildikglomkaaGreatDoor
open Go.RowKit
set_option linter.unusedVariables false

set_option maxRecDepth 100000 in
theorem size_any (n : Int) (hn : -4611686018427387904 ≤ n ∧ n ≤ 4611686018427387904) (w : World) : Calls Tryz.prog 115 #[.int .i64 n] w fun e w' => e = .returned (.int .i64 (absI n)) ∧ w' = w := by
  have e1 : IntKind.i64.wrap (-n) = -n := by rw [IntKind.wrap_i64]; omega
  have e2 : max n (-n) = absI n := by unfold absI; split <;> omega
  go_enter Tryz.func115,Tryz.ntmps115
  go_wp2_with fail
  go_ret
  exact ⟨by rw [← e2]; rfl,rfl⟩
set_option maxRecDepth 100000 in
theorem word_in (b : Nat) (t : TypeId) (len cap i : Nat) (l : List Int) (hl : len ≤ l.length) (hi : i < len) (hm : len ≤ 1000000) (w : World) (ha : Arr w b t .u64 l) : Calls Tryz.prog 117 #[.slice (some ⟨b,0,none⟩) len cap,.int .i64 i] w fun e w' => e = .returned (.int .u64 (l.getD i 0)) ∧ w' = w := by
  have hc := ha.cell i (by omega)
  have h1 : ¬ (i : Int) < 0 := by omega
  have h2 : ¬ (len : Int) ≤ (i : Int) := by omega
  go_enter Tryz.func117,Tryz.ntmps117
  go_wp2_with fail
  go_ret
  exact ⟨rfl,rfl⟩
set_option maxRecDepth 100000 in
theorem word_neg (v : Value) (i : Int) (hi : i < 0) (w : World) : Calls Tryz.prog 117 #[v,.int .i64 i] w fun e w' => e = .returned (.int .u64 0) ∧ w' = w := by
  go_enter Tryz.func117,Tryz.ntmps117
  go_wp2_with fail
  go_ret
  exact ⟨rfl,rfl⟩
set_option maxRecDepth 100000 in
set_option maxHeartbeats 1000000 in
theorem top_one (V : Int) (b : Nat) (t : TypeId) (cap : Nat) (x : Int) (hV : Hid (wrap64 (bits .or .u64 (IntKind.u64.wrap (x * 2305843009213693952)) 0 / 2) = V)) (l : List Int) (hl : 1 ≤ l.length) (hx : l.getD 0 0 = x) (w : World) (ha : Arr w b t .u64 l) : Calls Tryz.prog 118 #[.slice (some ⟨b,0,none⟩) 1 cap,.int .i64 0,.int .i64 61] w fun e w' => e = .returned (.int .i64 V) ∧ ∃ m,w' = w.drewN m := by
  have w1 := fun n => word_in b t 1 cap 0 l hl (by decide) (by decide) (w.drewN n) (ha.drewN n)
  simp only [hx] at w1
  have w2 := fun n => word_neg (.slice (some ⟨b,0,none⟩) 1 cap) (-1) (by decide) (w.drewN n)
  clear hx ha
  go_enter Tryz.func118,Tryz.ntmps118
  go_wp2_with fail
  go_quiet (first | (go_at_call 117; first | with_reducible exact Calls.quiet_of_same (w1 _) | with_reducible exact Calls.quiet_of_same (w2 _)))
  go_wp2_with fail
  go_ret
  exact ⟨by rw [← hV.out]; rfl,_,rfl⟩
end Go.Proofs.YtogildikglomkaaGreatDoor

namespace Go.Proofs.YtogildikglomkaaGreatDoor
open Go.RowKit
set_option linter.unusedVariables false

/-- A variable of two lines. -/
def Row4 (w : World) (c : Nat) (x y z u : Int) : Prop := w.heap[c]? = some (.cells #[.int .i64 x,.int .i64 y,.int .i64 z,.int .i64 u] 132 (0,0))
section
variable {w w' : World} {c : Nat} {x y z u : Int}
theorem Row4.lt (h : Row4 w c x y z u) : c < w.heap.size := (Array.getElem?_eq_some_iff.1 h).1
theorem Row4.cell0 (h : Row4 w c x y z u) : w.cell? ⟨c,0,none⟩ = some (.int .i64 x) := by rw [cell_of_row w c 0 _ _ (0,0) h]; rfl
theorem Row4.cell1 (h : Row4 w c x y z u) : w.cell? ⟨c,1,none⟩ = some (.int .i64 y) := by rw [cell_of_row w c 1 _ _ (0,0) h]; rfl
theorem Row4.cell2 (h : Row4 w c x y z u) : w.cell? ⟨c,2,none⟩ = some (.int .i64 z) := by rw [cell_of_row w c 2 _ _ (0,0) h]; rfl
theorem Row4.cell3 (h : Row4 w c x y z u) : w.cell? ⟨c,3,none⟩ = some (.int .i64 u) := by rw [cell_of_row w c 3 _ _ (0,0) h]; rfl
theorem Row4.free (h : Row4 w c x y z u) (i : Nat) : w.frozen? ⟨c,i,none⟩ = false := frozen_of_row w c i _ _ h
theorem Row4.below {B : Nat} (h : Row4 w c x y z u) (hb : Below B w w') (hc : c < B) : Row4 w' c x y z u := (hb.block c hc).trans h
theorem Row4.set4 (h : Row4 w c x y z u) (x' y' z' u' : Int) : Row4 ((((w.setCell ⟨c,0,none⟩ (.int .i64 x')).setCell ⟨c,1,none⟩ (.int .i64 y')).setCell ⟨c,2,none⟩ (.int .i64 z')).setCell ⟨c,3,none⟩ (.int .i64 u')) c x' y' z' u' := by
  have g1 := heap_setCell_same w c 0 _ _ (.int .i64 x') h
  have g2 := heap_setCell_same _ c 1 _ _ (.int .i64 y') g1
  have g3 := heap_setCell_same _ c 2 _ _ (.int .i64 z') g2
  have g4 := heap_setCell_same _ c 3 _ _ (.int .i64 u') g3
  exact g4
end
theorem below_set4 {B c : Nat} {a w : World} (h : Below B a w) (hB : B ≤ c) (x y z u : Value) : Below B a ((((w.setCell ⟨c,0,none⟩ x).setCell ⟨c,1,none⟩ y).setCell ⟨c,2,none⟩ z).setCell ⟨c,3,none⟩ u) :=
  (((h.setCell (p := ⟨c,0,none⟩) hB x).setCell (p := ⟨c,1,none⟩) hB y).setCell (p := ⟨c,2,none⟩) hB z).setCell (p := ⟨c,3,none⟩) hB u
set_option maxRecDepth 100000 in
set_option maxHeartbeats 4000000 in
theorem sure_64 (w : World) : Calls Tryz.prog 84 #[.int .i64 6917529027641081856,.int .i64 4611686018427387904] w fun e w' => e = .returned (.tuple #[.agg #[.int .i64 0,.int .i64 1,.int .i64 1,.int .i64 (-1)],.bool true]) ∧ Below w.heap.size w w' := by
  have s0 := fun w => size_any (-1) (by decide) w
  rw [show absI (-1) = 1 by decide] at s0
  have s1 := fun w => size_any 1 (by decide) w
  rw [show absI 1 = 1 by decide] at s1
  have s2 := fun w => size_any 2 (by decide) w
  rw [show absI 2 = 2 by decide] at s2
  have s3 := fun w => size_any 3 (by decide) w
  rw [show absI 3 = 3 by decide] at s3
  have hR : Row4 (w.alloc (.cells #[.int .i64 0,.int .i64 0,.int .i64 0,.int .i64 0] 132)) w.heap.size 0 0 0 0 := heap_new w _ _ rfl
  have hB : Below w.heap.size w (w.alloc (.cells #[.int .i64 0,.int .i64 0,.int .i64 0,.int .i64 0] 132)) := by go_grown
  obtain ⟨c,hc⟩ : ∃ c,w.heap.size = c := ⟨_,rfl⟩
  have hcw : w.heap.size ≤ c := by omega
  rw [hc] at hR
  go_enter Tryz.func84,Tryz.ntmps84
  go_wp2_with fail
  go_loopg [0,1,6,7,8,9] 2 (fun g x y u0 v0 u1 v1 wr => (g = 2 ∧ x = .int .i64 6917529027641081856 ∧ y = .int .i64 4611686018427387904 ∧ u0 = .int .i64 1 ∧ v0 = .int .i64 0 ∧ u1 = .int .i64 0 ∧ v1 = .int .i64 1 ∧ Row4 wr c 0 0 0 0 ∧ Below w.heap.size w wr) ∨ (g = 1 ∧ x = .int .i64 4611686018427387904 ∧ y = .int .i64 2305843009213693952 ∧ u0 = .int .i64 0 ∧ v0 = .int .i64 1 ∧ u1 = .int .i64 1 ∧ v1 = .int .i64 (-1) ∧ Row4 wr c 1 0 0 1 ∧ Below w.heap.size w wr) ∨ (g = 0 ∧ x = .int .i64 2305843009213693952 ∧ y = .int .i64 0 ∧ u0 = .int .i64 1 ∧ v0 = .int .i64 (-1) ∧ u1 = .int .i64 (-2) ∧ v1 = .int .i64 3 ∧ Row4 wr c 0 1 1 (-1) ∧ Below w.heap.size w wr))
  case atStart => exact .inl ⟨rfl,rfl,rfl,rfl,rfl,rfl,rfl,hR,hB⟩
  case round =>
    clear hR hB hc
    rcases hrel with ⟨rfl,rfl,rfl,rfl,rfl,rfl,rfl,hr,hb⟩ | ⟨rfl,rfl,rfl,rfl,rfl,rfl,rfl,hr,hb⟩ | ⟨rfl,rfl,rfl,rfl,rfl,rfl,rfl,hr,hb⟩
    · have c0 := hr.cell0
      have c1 := hr.cell1
      have c2 := hr.cell2
      have c3 := hr.cell3
      have f0 := hr.free 0
      have f1 := hr.free 1
      have f2 := hr.free 2
      have f3 := hr.free 3
      have hr2 := hr.set4 1 0 0 1
      have hb2 := below_set4 hb hcw (.int .i64 1) (.int .i64 0) (.int .i64 0) (.int .i64 1)
      go_wp2_with fail
      (first | with_reducible refine (s0 _).mono ?_ | with_reducible refine (s1 _).mono ?_ | with_reducible refine (s2 _).mono ?_ | with_reducible refine (s3 _).mono ?_)
      rintro e w' ⟨rfl,rfl⟩
      go_wp2_with fail
      (first | with_reducible refine (s0 _).mono ?_ | with_reducible refine (s1 _).mono ?_ | with_reducible refine (s2 _).mono ?_ | with_reducible refine (s3 _).mono ?_)
      rintro e w' ⟨rfl,rfl⟩
      go_wp2_with fail
      go_roundg 1
      case measure => omega
      case rel => exact .inr (.inl ⟨rfl,rfl,rfl,rfl,rfl,rfl,rfl,hr2,hb2⟩)
    · have c0 := hr.cell0
      have c1 := hr.cell1
      have c2 := hr.cell2
      have c3 := hr.cell3
      have f0 := hr.free 0
      have f1 := hr.free 1
      have f2 := hr.free 2
      have f3 := hr.free 3
      have hr2 := hr.set4 0 1 1 (-1)
      have hb2 := below_set4 hb hcw (.int .i64 0) (.int .i64 1) (.int .i64 1) (.int .i64 (-1))
      go_wp2_with fail
      (first | with_reducible refine (s0 _).mono ?_ | with_reducible refine (s1 _).mono ?_ | with_reducible refine (s2 _).mono ?_ | with_reducible refine (s3 _).mono ?_)
      rintro e w' ⟨rfl,rfl⟩
      go_wp2_with fail
      (first | with_reducible refine (s0 _).mono ?_ | with_reducible refine (s1 _).mono ?_ | with_reducible refine (s2 _).mono ?_ | with_reducible refine (s3 _).mono ?_)
      rintro e w' ⟨rfl,rfl⟩
      go_wp2_with fail
      go_roundg 0
      case measure => omega
      case rel => exact .inr (.inr ⟨rfl,rfl,rfl,rfl,rfl,rfl,rfl,hr2,hb2⟩)
    · have c0 := hr.cell0
      have c1 := hr.cell1
      have c2 := hr.cell2
      have c3 := hr.cell3
      have f0 := hr.free 0
      have f1 := hr.free 1
      have f2 := hr.free 2
      have f3 := hr.free 3
      have hr2 := hr.set4 0 1 1 (-1)
      have hb2 := below_set4 hb hcw (.int .i64 0) (.int .i64 1) (.int .i64 1) (.int .i64 (-1))
      go_wp2_with fail
      (first | with_reducible refine (s0 _).mono ?_ | with_reducible refine (s1 _).mono ?_ | with_reducible refine (s2 _).mono ?_ | with_reducible refine (s3 _).mono ?_)
      rintro e w' ⟨rfl,rfl⟩
      go_wp2_with fail
      refine bodyPost_ret (v := .tuple #[.agg #[.int .i64 0,.int .i64 1,.int .i64 1,.int .i64 (-1)],.bool true]) ?_ rfl ⟨rfl,hb2⟩
      simp [results,Tryz.results84,asAddr,run_loadVar_row _ c _ 132 _ (0,0) _ hr2 Tryz.underlying132 rfl (by kernel_rfl)]
set_option maxRecDepth 100000 in
set_option maxHeartbeats 4000000 in
theorem sure_42 (w : World) : Calls Tryz.prog 84 #[.int .i64 4611686018427387904,.int .i64 2305843009213693952] w fun e w' => e = .returned (.tuple #[.agg #[.int .i64 1,.int .i64 0,.int .i64 0,.int .i64 1],.bool false]) ∧ Below w.heap.size w w' := by
  have s0 := fun w => size_any (-2) (by decide) w
  rw [show absI (-2) = 2 by decide] at s0
  have s1 := fun w => size_any (-1) (by decide) w
  rw [show absI (-1) = 1 by decide] at s1
  have s2 := fun w => size_any 1 (by decide) w
  rw [show absI 1 = 1 by decide] at s2
  have hR : Row4 (w.alloc (.cells #[.int .i64 0,.int .i64 0,.int .i64 0,.int .i64 0] 132)) w.heap.size 0 0 0 0 := heap_new w _ _ rfl
  have hB : Below w.heap.size w (w.alloc (.cells #[.int .i64 0,.int .i64 0,.int .i64 0,.int .i64 0] 132)) := by go_grown
  obtain ⟨c,hc⟩ : ∃ c,w.heap.size = c := ⟨_,rfl⟩
  have hcw : w.heap.size ≤ c := by omega
  rw [hc] at hR
  go_enter Tryz.func84,Tryz.ntmps84
  go_wp2_with fail
  go_loopg [0,1,6,7,8,9] 1 (fun g x y u0 v0 u1 v1 wr => (g = 1 ∧ x = .int .i64 4611686018427387904 ∧ y = .int .i64 2305843009213693952 ∧ u0 = .int .i64 1 ∧ v0 = .int .i64 0 ∧ u1 = .int .i64 0 ∧ v1 = .int .i64 1 ∧ Row4 wr c 0 0 0 0 ∧ Below w.heap.size w wr) ∨ (g = 0 ∧ x = .int .i64 2305843009213693952 ∧ y = .int .i64 0 ∧ u0 = .int .i64 0 ∧ v0 = .int .i64 1 ∧ u1 = .int .i64 1 ∧ v1 = .int .i64 (-2) ∧ Row4 wr c 1 0 0 1 ∧ Below w.heap.size w wr))
  case atStart => exact .inl ⟨rfl,rfl,rfl,rfl,rfl,rfl,rfl,hR,hB⟩
  case round =>
    clear hR hB hc
    rcases hrel with ⟨rfl,rfl,rfl,rfl,rfl,rfl,rfl,hr,hb⟩ | ⟨rfl,rfl,rfl,rfl,rfl,rfl,rfl,hr,hb⟩
    · have c0 := hr.cell0
      have c1 := hr.cell1
      have c2 := hr.cell2
      have c3 := hr.cell3
      have f0 := hr.free 0
      have f1 := hr.free 1
      have f2 := hr.free 2
      have f3 := hr.free 3
      have hr2 := hr.set4 1 0 0 1
      have hb2 := below_set4 hb hcw (.int .i64 1) (.int .i64 0) (.int .i64 0) (.int .i64 1)
      go_wp2_with fail
      (first | with_reducible refine (s0 _).mono ?_ | with_reducible refine (s1 _).mono ?_ | with_reducible refine (s2 _).mono ?_)
      rintro e w' ⟨rfl,rfl⟩
      go_wp2_with fail
      (first | with_reducible refine (s0 _).mono ?_ | with_reducible refine (s1 _).mono ?_ | with_reducible refine (s2 _).mono ?_)
      rintro e w' ⟨rfl,rfl⟩
      go_wp2_with fail
      go_roundg 0
      case measure => omega
      case rel => exact .inr ⟨rfl,rfl,rfl,rfl,rfl,rfl,rfl,hr2,hb2⟩
    · have c0 := hr.cell0
      have c1 := hr.cell1
      have c2 := hr.cell2
      have c3 := hr.cell3
      have f0 := hr.free 0
      have f1 := hr.free 1
      have f2 := hr.free 2
      have f3 := hr.free 3
      have hr2 := hr.set4 1 0 0 1
      have hb2 := below_set4 hb hcw (.int .i64 1) (.int .i64 0) (.int .i64 0) (.int .i64 1)
      go_wp2_with fail
      (first | with_reducible refine (s0 _).mono ?_ | with_reducible refine (s1 _).mono ?_ | with_reducible refine (s2 _).mono ?_)
      rintro e w' ⟨rfl,rfl⟩
      go_wp2_with fail
      refine bodyPost_ret (v := .tuple #[.agg #[.int .i64 1,.int .i64 0,.int .i64 0,.int .i64 1],.bool false]) ?_ rfl ⟨rfl,hb2⟩
      simp [results,Tryz.results84,asAddr,run_loadVar_row _ c _ 132 _ (0,0) _ hr2 Tryz.underlying132 rfl (by kernel_rfl)]
end Go.Proofs.YtogildikglomkaaGreatDoor

namespace Go.Proofs.YtogildikglomkaaGreatDoor
open Go.RowKit
set_option linter.unusedVariables false

set_option maxRecDepth 100000 in
set_option maxHeartbeats 4000000 in
theorem mulAdd_a (w : World) : Calls Tryz.prog 119 #[.int .u64 6,.int .u64 4,.agg #[.int .i64 0,.int .i64 1],.int .i64 0] w fun e w' => e = .returned (.tuple #[.int .u64 4,.int .i64 0]) ∧ Below w.heap.size w w' := by
  have hN := heap_new w (.cells #[.int .i64 0,.int .i64 1] 130) w.heap.size rfl
  have hB : Below w.heap.size w (w.alloc (.cells #[.int .i64 0,.int .i64 1] 130)) := by go_grown
  have m1 := fun w => mul64_any 6 0 ⟨by decide,by decide⟩ ⟨by decide,by decide⟩ w
  have m2 := fun w => mul64_any 4 1 ⟨by decide,by decide⟩ ⟨by decide,by decide⟩ w
  rw [show mulHi 6 0 0 = 0 by decide,show mulLo 6 0 0 = 0 by decide] at m1
  rw [show mulHi 4 1 0 = 0 by decide,show mulLo 4 1 0 = 4 by decide] at m2
  have a1 : ∀ w,(callFunc 74 #[.int .u64 0,.int .u64 4,.int .u64 0]).run Tryz.prog w = .ok (.value (.tuple #[.int .u64 4,.int .u64 0])) w := fun w => by rw [add64 0 4 0 (by decide) (by decide) (by decide) (by decide)]; rfl
  have a2 : ∀ w,(callFunc 74 #[.int .u64 4,.int .u64 0,.int .u64 0]).run Tryz.prog w = .ok (.value (.tuple #[.int .u64 4,.int .u64 0])) w := fun w => by rw [add64 4 0 0 (by decide) (by decide) (by decide) (by decide)]; rfl
  go_enter Tryz.func119,Tryz.ntmps119
  go_wp2_with fail
  refine (m1 _).mono ?_
  rintro e w' ⟨rfl,rfl⟩
  go_wp2_with fail
  refine (m2 _).mono ?_
  rintro e w' ⟨rfl,rfl⟩
  go_wp2_with fail
  refine bodyPost_ret (v := .tuple #[.int .u64 4,.int .i64 0]) ?_ rfl ⟨rfl,hB⟩
  simp [results,Tryz.results119]
  decide +kernel
set_option maxRecDepth 100000 in
set_option maxHeartbeats 4000000 in
theorem mulAdd_b (w : World) : Calls Tryz.prog 119 #[.int .u64 6,.int .u64 4,.agg #[.int .i64 1,.int .i64 (-1)],.int .i64 0] w fun e w' => e = .returned (.tuple #[.int .u64 2,.int .i64 0]) ∧ Below w.heap.size w w' := by
  have hN := heap_new w (.cells #[.int .i64 1,.int .i64 (-1)] 130) w.heap.size rfl
  have hB : Below w.heap.size w (w.alloc (.cells #[.int .i64 1,.int .i64 (-1)] 130)) := by go_grown
  have m1 := fun w => mul64_any 6 1 ⟨by decide,by decide⟩ ⟨by decide,by decide⟩ w
  have m2 := fun w => mul64_any 4 18446744073709551615 ⟨by decide,by decide⟩ ⟨by decide,by decide⟩ w
  rw [show mulHi 6 1 0 = 0 by decide,show mulLo 6 1 0 = 6 by decide] at m1
  rw [show mulHi 4 18446744073709551615 0 = 3 by decide,show mulLo 4 18446744073709551615 0 = 18446744073709551612 by decide] at m2
  have a1 : ∀ w,(callFunc 74 #[.int .u64 6,.int .u64 18446744073709551612,.int .u64 0]).run Tryz.prog w = .ok (.value (.tuple #[.int .u64 2,.int .u64 1])) w := fun w => by rw [add64 6 18446744073709551612 0 (by decide) (by decide) (by decide) (by decide)]; rfl
  have a2 : ∀ w,(callFunc 74 #[.int .u64 2,.int .u64 0,.int .u64 0]).run Tryz.prog w = .ok (.value (.tuple #[.int .u64 2,.int .u64 0])) w := fun w => by rw [add64 2 0 0 (by decide) (by decide) (by decide) (by decide)]; rfl
  go_enter Tryz.func119,Tryz.ntmps119
  go_wp2_with fail
  refine (m1 _).mono ?_
  rintro e w' ⟨rfl,rfl⟩
  go_wp2_with fail
  refine (m2 _).mono ?_
  rintro e w' ⟨rfl,rfl⟩
  go_wp2_with fail
  refine bodyPost_ret (v := .tuple #[.int .u64 2,.int .i64 0]) ?_ rfl ⟨rfl,hB⟩
  simp [results,Tryz.results119]
  decide +kernel
end Go.Proofs.YtogildikglomkaaGreatDoor

namespace Go.Proofs.YtogildikglomkaaGreatDoor
open Go.RowKit
set_option linter.unusedVariables false

/-- Euclid's row is block e: two slices of words. -/
def EBox (w : World) (e : Nat) (u v : Value) : Prop := w.heap[e]? = some (.cells #[u,v] 86 (0,0))
section
variable {w w' : World} {e : Nat} {u v : Value}
theorem EBox.lt (h : EBox w e u v) : e < w.heap.size := (Array.getElem?_eq_some_iff.1 h).1
theorem EBox.cell0 (h : EBox w e u v) : w.cell? ⟨e,0,none⟩ = some u := by rw [cell_of_row w e 0 _ _ (0,0) h]; rfl
theorem EBox.cell1 (h : EBox w e u v) : w.cell? ⟨e,1,none⟩ = some v := by rw [cell_of_row w e 1 _ _ (0,0) h]; rfl
theorem EBox.free (h : EBox w e u v) (i : Nat) : w.frozen? ⟨e,i,none⟩ = false := frozen_of_row w e i _ _ h
theorem EBox.below {B : Nat} (h : EBox w e u v) (hb : Below B w w') (he : e < B) : EBox w' e u v := (hb.block e he).trans h
theorem EBox.set0 (h : EBox w e u v) (x : Value) : EBox (w.setCell ⟨e,0,none⟩ x) e x v := heap_setCell_same w e 0 _ _ x h
theorem EBox.set1 (h : EBox w e u v) (x : Value) : EBox (w.setCell ⟨e,1,none⟩ x) e u x := heap_setCell_same w e 1 _ _ x h
theorem EBox.other (h : EBox w e u v) {a : Addr} (ha : e ≠ a.block) (x : Value) : EBox (w.setCell a x) e u v := (heap_setCell_other w a e x ha).trans h
end
set_option maxRecDepth 100000 in
set_option maxHeartbeats 1000000 in
theorem trim_one (b : Nat) (t : TypeId) (cap : Nat) (x : Int) (hx : x ≠ 0) (hc : 1 ≤ cap) (w : World) (ha : Arr w b t .u64 [x]) : Calls Tryz.prog 120 #[.slice (some ⟨b,0,none⟩) 1 cap] w fun e w' => e = .returned (.slice (some ⟨b,0,none⟩) 1 cap) ∧ w' = w := by
  have hcell := ha.cell 0 (by simp)
  rw [show ([x] : List Int).getD 0 0 = x from rfl] at hcell
  have xb : (x == 0) = false := by simpa using hx
  have hcI : (1 : Int) ≤ (cap : Int) := by omega
  clear ha hx
  go_enter Tryz.func120,Tryz.ntmps120
  go_wp2_with fail
  go_loopg [3] 0 (fun g iv wr => iv = .int .i64 1 ∧ wr = w)
  case atStart => exact ⟨rfl,rfl⟩
  case round =>
    obtain ⟨rfl,rfl⟩ := hrel
    go_wp2_with fail
    go_ret
    exact ⟨rfl,rfl⟩
set_option maxRecDepth 100000 in
set_option maxHeartbeats 4000000 in
theorem tops_c (x y V1 V2 : Int) (hV1 : Hid (wrap64 (bits .or .u64 (IntKind.u64.wrap (x * 2305843009213693952)) 0 / 2) = V1)) (hV2 : Hid (wrap64 (bits .or .u64 (IntKind.u64.wrap (y * 2305843009213693952)) 0 / 2) = V2)) (hor : bits .or .u64 x y = 6) (e ga gb ca cb : Nat) (w : World) (he : EBox w e (.slice (some ⟨ga,0,none⟩) 1 ca) (.slice (some ⟨gb,0,none⟩) 1 cb)) (ha : Arr w ga 22 .u64 [x]) (hb : Arr w gb 22 .u64 [y]) :
    Calls Tryz.prog 85 #[.pointer (some ⟨e,0,none⟩)] w fun r w' => r = .returned (.tuple #[.int .i64 V1,.int .i64 V2]) ∧ ∃ m,w' = w.drewN m := by
  have c0 := he.cell0
  have c1 := he.cell1
  have wa : ∀ W n,Arr W ga 22 .u64 [x] → Calls Tryz.prog 117 #[.slice (some ⟨ga,0,none⟩) 1 ca,.int .i64 0] (W.drewN n) fun e w'' => e = .returned (.int .u64 x) ∧ ∃ m,w'' = W.drewN m := fun W n h => Calls.quiet_of_same (word_in ga 22 1 ca 0 [x] (by simp) (by decide) (by decide) (W.drewN n) (h.drewN n))
  have wb : ∀ W n,Arr W gb 22 .u64 [y] → Calls Tryz.prog 117 #[.slice (some ⟨gb,0,none⟩) 1 cb,.int .i64 0] (W.drewN n) fun e w'' => e = .returned (.int .u64 y) ∧ ∃ m,w'' = W.drewN m := fun W n h => Calls.quiet_of_same (word_in gb 22 1 cb 0 [y] (by simp) (by decide) (by decide) (W.drewN n) (h.drewN n))
  have ta : ∀ W n,Arr W ga 22 .u64 [x] → Calls Tryz.prog 118 #[.slice (some ⟨ga,0,none⟩) 1 ca,.int .i64 0,.int .i64 61] (W.drewN n) fun e w'' => e = .returned (.int .i64 V1) ∧ ∃ m,w'' = W.drewN m := fun W n h => Calls.quiet_of (top_one V1 ga 22 ca x hV1 [x] (by simp) rfl (W.drewN n) (h.drewN n))
  have tb : ∀ W n,Arr W gb 22 .u64 [y] → Calls Tryz.prog 118 #[.slice (some ⟨gb,0,none⟩) 1 cb,.int .i64 0,.int .i64 61] (W.drewN n) fun e w'' => e = .returned (.int .i64 V2) ∧ ∃ m,w'' = W.drewN m := fun W n h => Calls.quiet_of (top_one V2 gb 22 cb y hV2 [y] (by simp) rfl (W.drewN n) (h.drewN n))
  have lzq : ∀ W n,Calls Tryz.prog 116 #[.int .u64 6] (World.drewN W n) fun e w'' => e = .returned (.int .i64 61) ∧ ∃ m,w'' = W.drewN m := fun W n => by
    obtain ⟨S',hS',h1,h2,lz'⟩ := lz_any 6 ⟨by decide,by decide⟩ (by decide) (W.drewN n)
    obtain rfl : S' = 61 := by
      rcases Nat.lt_trichotomy S' 61 with h | h | h
      · have := two_pow_mono (show S' ≤ 60 by omega)
        omega
      · exact h
      · have := two_pow_mono (show 62 ≤ S' by omega)
        omega
    exact lz'.mono fun e w' ⟨he,hw⟩ => ⟨he,n,hw.symm⟩
  clear hV1 hV2
  go_enter Tryz.func85,Tryz.ntmps85
  go_wp2_with fail
  go_quiet (fail)
  go_wp2_with fail
  have hk1 : ∃ m,w.drewN nq = w.drewN m := ⟨_,rfl⟩
  replace ha := ha.drewN nq
  replace hb := hb.drewN nq
  replace he : EBox (w.drewN nq) e _ _ := he
  generalize w.drewN nq = W1 at hk1 ha hb he ⊢
  replace c0 := he.cell0
  replace c1 := he.cell1
  go_quiet (first | (go_at_call 117; first | with_reducible exact wa _ _ ha | with_reducible exact wb _ _ hb) | (go_at_call 116; with_reducible exact lzq _ _))
  go_wp2_with fail
  have hk2 : ∃ m,W1.drewN nq = w.drewN m := by
    obtain ⟨m,rfl⟩ := hk1
    exact ⟨m + nq,World.drewN_drewN _ _ _⟩
  replace ha := ha.drewN nq
  replace hb := hb.drewN nq
  replace he : EBox (W1.drewN nq) e _ _ := he
  generalize W1.drewN nq = W2 at hk2 ha hb he ⊢
  replace c0 := he.cell0
  replace c1 := he.cell1
  go_quiet (first | (go_at_call 118; first | with_reducible exact ta _ _ ha | with_reducible exact tb _ _ hb))
  go_wp2_with fail
  obtain ⟨m,rfl⟩ := hk2
  refine bodyPost_ret (v := .tuple #[.int .i64 V1,.int .i64 V2]) ?_ rfl ⟨rfl,_,World.drewN_drewN _ _ _⟩
  simp [results,Tryz.results85]
end Go.Proofs.YtogildikglomkaaGreatDoor

namespace Go.Proofs.YtogildikglomkaaGreatDoor
open Go.RowKit
set_option linter.unusedVariables false

/-- Of what was there only what p tells has turned. -/
def Only (w w' : World) (p : Nat → Prop) : Prop := w'.os = w.os ∧ w'.tape = w.tape ∧ w'.output = w.output ∧ w.heap.size ≤ w'.heap.size ∧ ∀ k,k < w.heap.size → ¬ p k → w'.heap[k]? = w.heap[k]?
theorem Only.refl (w : World) (p : Nat → Prop) : Only w w p := ⟨rfl,rfl,rfl,Nat.le_refl _,fun _ _ _ => rfl⟩
theorem Only.trans {a b c : World} {p : Nat → Prop} (h : Only a b p) (g : Only b c p) : Only a c p :=
  ⟨g.1.trans h.1,g.2.1.trans h.2.1,g.2.2.1.trans h.2.2.1,Nat.le_trans h.2.2.2.1 g.2.2.2.1,fun k hk hp => (g.2.2.2.2 k (Nat.lt_of_lt_of_le hk h.2.2.2.1) hp).trans (h.2.2.2.2 k hk hp)⟩
theorem Only.below {a b c : World} {p : Nat → Prop} (h : Only a b p) (g : Below b.heap.size b c) : Only a c p :=
  h.trans ⟨g.os,g.tape,g.output,g.size,fun k hk _ => g.block k hk⟩
theorem Only.set {a b : World} {p : Nat → Prop} (h : Only a b p) {q : Nat} (hq : p q) (i : Nat) (v : Value) : Only a (b.setCell ⟨q,i,none⟩ v) p :=
  h.trans ⟨rfl,rfl,rfl,by simp [World.setCell],fun k _ hk => heap_setCell_other b ⟨q,i,none⟩ k v (fun e => hk (by rw [show k = q from e]; exact hq))⟩
theorem Only.mono {a b : World} {p r : Nat → Prop} (h : Only a b p) (hpr : ∀ k,p k → k < a.heap.size → r k) : Only a b r :=
  ⟨h.1,h.2.1,h.2.2.1,h.2.2.2.1,fun k hk hr => h.2.2.2.2 k hk (fun hp => hr (hpr k hp hk))⟩
theorem Only.toBelow {a b : World} {p : Nat → Prop} {B : Nat} (h : Only a b p) (hB : B ≤ a.heap.size) (hp : ∀ k,p k → B ≤ k) : Below B a b :=
  ⟨h.1,h.2.1,h.2.2.1,h.2.2.2.1,fun k hk => h.2.2.2.2 k (by omega) (fun hpk => by have := hp k hpk; omega)⟩
set_option maxRecDepth 100000 in
set_option maxHeartbeats 4000000 in
theorem by_64 (e ga gb ca cb : Nat) (w : World) (nab : ga ≠ gb) (nea : e ≠ ga) (neb : e ≠ gb) (hca : 1 ≤ ca) (hcb : 1 ≤ cb) (he : EBox w e (.slice (some ⟨ga,0,none⟩) 1 ca) (.slice (some ⟨gb,0,none⟩) 1 cb)) (ha : Arr w ga 22 .u64 [6]) (hb : Arr w gb 22 .u64 [4]) :
    Calls Tryz.prog 86 #[.pointer (some ⟨e,0,none⟩),.agg #[.int .i64 0,.int .i64 1,.int .i64 1,.int .i64 (-1)]] w fun r w' => r = .returned (.tuple #[]) ∧ EBox w' e (.slice (some ⟨ga,0,none⟩) 1 ca) (.slice (some ⟨gb,0,none⟩) 1 cb) ∧ Arr w' ga 22 .u64 [4] ∧ Arr w' gb 22 .u64 [2] ∧ Only w w' (fun k => k = e ∨ k = ga ∨ k = gb) := by
  have pe : (fun k => k = e ∨ k = ga ∨ k = gb) e := .inl rfl
  have pa : (fun k => k = e ∨ k = ga ∨ k = gb) ga := .inr (.inl rfl)
  have pb : (fun k => k = e ∨ k = ga ∨ k = gb) gb := .inr (.inr rfl)
  obtain ⟨P,hP⟩ : ∃ P,(fun k => k = e ∨ k = ga ∨ k = gb) = P := ⟨_,rfl⟩
  rw [hP] at pe pa pb ⊢
  clear hP
  have hL := heap_new w (.cells #[.int .i64 0,.int .i64 1,.int .i64 1,.int .i64 (-1)] 132) w.heap.size rfl
  have b0 : Below w.heap.size w (w.alloc (.cells #[.int .i64 0,.int .i64 1,.int .i64 1,.int .i64 (-1)] 132)) := by go_grown
  have hR : Row4 (w.alloc (.cells #[.int .i64 0,.int .i64 1,.int .i64 1,.int .i64 (-1)] 132)) w.heap.size 0 1 1 (-1) := hL
  replace he := he.below b0 he.lt
  replace ha := ha.below b0 ha.lt
  replace hb := hb.below b0 hb.lt
  have hBw := (Only.refl w P).below b0
  have c0 := he.cell0
  have c1 := he.cell1
  go_enter Tryz.func86,Tryz.ntmps86
  go_wp2_with fail
  go_quiet (fail)
  go_wp2_with fail
  replace he : EBox ((w.alloc (.cells #[.int .i64 0,.int .i64 1,.int .i64 1,.int .i64 (-1)] 132)).drewN nq) e _ _ := he
  replace ha := ha.drewN nq
  replace hb := hb.drewN nq
  replace hR : Row4 ((w.alloc (.cells #[.int .i64 0,.int .i64 1,.int .i64 1,.int .i64 (-1)] 132)).drewN nq) w.heap.size 0 1 1 (-1) := hR
  replace hBw : Only w ((w.alloc (.cells #[.int .i64 0,.int .i64 1,.int .i64 1,.int .i64 (-1)] 132)).drewN nq) P := hBw
  generalize (w.alloc (.cells #[.int .i64 0,.int .i64 1,.int .i64 1,.int .i64 (-1)] 132)).drewN nq = W1 at he ha hb hR hBw ⊢
  obtain ⟨c,hc⟩ : ∃ c,w.heap.size = c := ⟨_,rfl⟩
  rw [hc] at hR ⊢
  clear b0 hL hc c0 c1
  go_loopg [5] 0 (fun g v wr => v = .slice (some ⟨gb,0,none⟩) 1 cb ∧ W1 = wr)
  case atStart => exact ⟨rfl,rfl⟩
  case round =>
    obtain ⟨rfl,rfl⟩ := hrel
    go_wp2_with fail
    go_loopg [6,7,29] 1 (fun g x y i wr => (g = 1 ∧ x = .int .i64 0 ∧ y = .int .i64 0 ∧ i = .int .i64 0 ∧ W1 = wr) ∨ (g = 0 ∧ x = .int .i64 0 ∧ y = .int .i64 0 ∧ i = .int .i64 1 ∧ EBox wr e (.slice (some ⟨ga,0,none⟩) 1 ca) (.slice (some ⟨gb,0,none⟩) 1 cb) ∧ Arr wr ga 22 .u64 [4] ∧ Arr wr gb 22 .u64 [2] ∧ Only w wr P))
    case atStart => exact .inl ⟨rfl,rfl,rfl,rfl,rfl⟩
    case round =>
      rcases hrel with ⟨rfl,rfl,rfl,rfl,rfl⟩ | ⟨rfl,rfl,rfl,rfl,he2,ha2,hb2,hB2⟩
      · have a0 := ha.cell 0 (by decide)
        have b0 := hb.cell 0 (by decide)
        have r0 := hR.cell0
        have r1 := hR.cell1
        rw [show ([6] : List Int).getD 0 0 = 6 from rfl] at a0
        rw [show ([4] : List Int).getD 0 0 = 4 from rfl] at b0
        go_wp2_with fail
        refine (mulAdd_a _).mono ?_
        rintro r w2 ⟨rfl,m2⟩
        have he2 := he.below m2 he.lt
        have ha2 := ha.below m2 ha.lt
        have hb2 := hb.below m2 hb.lt
        have hR2 := hR.below m2 hR.lt
        have hB2 := hBw.below m2
        have x0 := ha2.cell 0 (by decide)
        have x1 := ha2.free 0
        have ha3 := ha2.set 0 4
        have he3 := he2.other (a := ⟨ga,0,none⟩) nea (.int .u64 4)
        have hb3 := hb2.other (a := ⟨ga,0,none⟩) (Ne.symm nab) (.int .u64 4)
        have hR3 : Row4 (w2.setCell ⟨ga,0,none⟩ (.int .u64 4)) c 0 1 1 (-1) := (heap_setCell_other w2 ⟨ga,0,none⟩ c (.int .u64 4) (by rintro rfl; have h := ha2.symm.trans hR2; simp at h)).trans hR2
        have hB3 := hB2.set pa 0 (.int .u64 4)
        have r2 := hR3.cell2
        have r3 := hR3.cell3
        have b30 := hb3.cell 0 (by decide)
        rw [show ([4] : List Int).getD 0 0 = 4 from rfl] at b30
        rw [show ([6] : List Int).getD 0 0 = 6 from rfl] at x0
        rw [show ([6] : List Int).set 0 4 = [4] from rfl] at ha3
        go_wp2_with fail
        generalize w2.setCell ⟨ga,0,none⟩ (.int .u64 4) = w3 at he3 ha3 hb3 hB3 r2 r3 b30 ⊢
        clear he2 ha2 hb2 hR2 hB2 x0 x1 a0 b0 r0 r1 hR3 m2
        refine (mulAdd_b _).mono ?_
        rintro r w4 ⟨rfl,m4⟩
        have he4 := he3.below m4 he3.lt
        have ha4 := ha3.below m4 ha3.lt
        have hb4 := hb3.below m4 hb3.lt
        have hB4 := hB3.below m4
        have x0 := hb4.cell 0 (by decide)
        have x1 := hb4.free 0
        rw [show ([4] : List Int).getD 0 0 = 4 from rfl] at x0
        have hb5 := hb4.set 0 2
        rw [show ([4] : List Int).set 0 2 = [2] from rfl] at hb5
        have he5 := he4.other (a := ⟨gb,0,none⟩) neb (.int .u64 2)
        have ha5 := ha4.other (a := ⟨gb,0,none⟩) nab (.int .u64 2)
        have hB5 := hB4.set pb 0 (.int .u64 2)
        clear r2 r3 b30
        go_wp2_with fail
        go_roundg 0
        case measure => omega
        case rel => exact .inr ⟨rfl,rfl,rfl,rfl,he5,ha5,hb5,hB5⟩
      · have tA := trim_one ga 22 ca 4 (by decide) hca _ ha2
        have tB := trim_one gb 22 cb 2 (by decide) hcb _ hb2
        have c0 := he2.cell0
        have c1 := he2.cell1
        have f0 := he2.free 0
        have f1 := he2.free 1
        have g1 := (he2.set0 (.slice (some ⟨ga,0,none⟩) 1 ca)).set1 (.slice (some ⟨gb,0,none⟩) 1 cb)
        have gA := (ha2.other (a := ⟨e,0,none⟩) (Ne.symm nea) (.slice (some ⟨ga,0,none⟩) 1 ca)).other (a := ⟨e,1,none⟩) (Ne.symm nea) (.slice (some ⟨gb,0,none⟩) 1 cb)
        have gB := (hb2.other (a := ⟨e,0,none⟩) (Ne.symm neb) (.slice (some ⟨ga,0,none⟩) 1 ca)).other (a := ⟨e,1,none⟩) (Ne.symm neb) (.slice (some ⟨gb,0,none⟩) 1 cb)
        have gW := (hB2.set pe 0 (.slice (some ⟨ga,0,none⟩) 1 ca)).set pe 1 (.slice (some ⟨gb,0,none⟩) 1 cb)
        go_wp2_with fail
        refine tA.mono ?_
        rintro r w' ⟨rfl,rfl⟩
        go_wp2_with fail
        refine tB.mono ?_
        rintro r w'' ⟨rfl,rfl⟩
        go_wp2_with fail
        refine bodyPost_end (results_none rfl _ _ _) rfl ?_
        exact ⟨rfl,g1,gA,gB,gW⟩
end Go.Proofs.YtogildikglomkaaGreatDoor

namespace Go.Proofs.YtogildikglomkaaGreatDoor
open Go.RowKit
set_option linter.unusedVariables false

set_option maxRecDepth 100000 in
set_option maxHeartbeats 4000000 in
theorem wordsOf_small (x : Int) (hx : 0 < x ∧ x < 256) (k0 : Nat) (hk0 : IsBits x k0) (h8 : (k0 + 7) / 8 = 1) (w : World) : Calls Tryz.prog 47 #[.agg #[.int .u64 x,.slice none 0 0]] w fun r w' => ∃ g,r = .returned (.slice (some ⟨g,0,none⟩) 1 1) ∧ Arr w' g 22 .u64 [x] ∧ w.heap.size ≤ g ∧ Below w.heap.size w w' := by
  have bw := fun W => bytes_word x ⟨by omega,by omega⟩ W
  have b0 : Below w.heap.size w (w.alloc (.cells #[.int .u64 x,.slice none 0 0] 25)) := by go_grown
  have hmk := make64 1 1 rfl (by decide)
  go_enter Tryz.func47,Tryz.ntmps47
  go_wp2_with fail
  generalize (w.alloc (.cells #[.int .u64 x,.slice none 0 0] 25)) = W at b0 ⊢
  refine (bw W).mono ?_
  rintro r w1 ⟨bb,k,m,rfl,hk,hm,ha,hbg,b1⟩
  obtain rfl := hk.unique hk0
  rw [h8] at hm
  subst hm
  have eb : be x 1 = [x] := by
    show [x / 256 ^ 0 % 256] = [x]
    rw [show x / 256 ^ 0 % 256 = x by simp; omega]
  rw [eb] at ha
  clear eb hk hk0 h8
  have b2 : Below w1.heap.size w1 (w1.alloc (.cells (zeros .u64 1) 22)) := by go_grown
  have hz : Arr (w1.alloc (.cells (zeros .u64 1) 22)) w1.heap.size 22 .u64 [0] := Arr.new w1 _ _ [0] _ rfl
  have hc := (ha.below b2 ha.lt).cell 0 (by simp)
  rw [show ([x] : List Int).getD 0 0 = x from rfl] at hc
  have hBw := b0.trans (b1.mono b0.size)
  have hsz := hBw.size
  have hB2 := hBw.trans (b2.mono hsz)
  go_wp2_with fail
  generalize (w1.alloc (.cells (zeros .u64 1) 22)) = w2 at hz hc hB2 ⊢
  obtain ⟨g,hg⟩ : ∃ g,w1.heap.size = g := ⟨_,rfl⟩
  rw [hg] at hz hsz ⊢
  clear ha b2 hg bw hBw hbg b1 b0
  go_loopg [18] 1 (fun n i wr => (n = 1 ∧ i = .int .i64 0 ∧ w2 = wr) ∨ (n = 0 ∧ i = .int .i64 1 ∧ Arr wr g 22 .u64 [x] ∧ Below w.heap.size w wr))
  case atStart => exact .inl ⟨rfl,rfl,rfl⟩
  case round =>
    rcases hrel with ⟨rfl,rfl,rfl⟩ | ⟨rfl,rfl,hA,hB⟩
    · have z0 := hz.cell 0 (by decide)
      have z1 := hz.free 0
      rw [show ([0] : List Int).getD 0 0 = 0 from rfl] at z0
      have hs := hz.set 0 x
      rw [show ([0] : List Int).set 0 x = [x] from rfl] at hs
      have hB3 := hB2.setCell (p := ⟨g,0,none⟩) hsz (.int .u64 x)
      have e1 : IntKind.u64.wrap x = x := by rw [IntKind.wrap_u64]; omega
      have e2 : bits .or .u64 0 x = x := by
        show IntKind.u64.wrap ((BitVec.ofInt 64 0 ||| BitVec.ofInt 64 x).toNat : Int) = x
        rw [show BitVec.ofInt 64 0 = 0#64 from rfl,BitVec.zero_or,BitVec.toNat_ofInt,IntKind.wrap_u64]
        omega
      go_wp2_with fail
      go_region
      go_wp2_with fail
      go_roundg 0
      case measure => omega
      case rel => exact .inr ⟨rfl,rfl,hs.drew,hB3.drew⟩
    · go_wp2_with fail
      go_ret
      exact ⟨g,rfl,hA,hsz,hB⟩
set_option maxRecDepth 100000 in
set_option maxHeartbeats 4000000 in
theorem wordsOf_zero (w : World) : Calls Tryz.prog 47 #[.agg #[.int .u64 0,.slice none 0 0]] w fun r w' => ∃ g,r = .returned (.slice (some ⟨g,0,none⟩) 0 0) ∧ w.heap.size ≤ g ∧ Below w.heap.size w w' := by
  have bw := fun W => bytes_word 0 ⟨by decide,by decide⟩ W
  have b0 : Below w.heap.size w (w.alloc (.cells #[.int .u64 0,.slice none 0 0] 25)) := by go_grown
  have hmk := make64 0 0 rfl (by decide)
  go_enter Tryz.func47,Tryz.ntmps47
  go_wp2_with fail
  generalize (w.alloc (.cells #[.int .u64 0,.slice none 0 0] 25)) = W at b0 ⊢
  refine (bw W).mono ?_
  rintro r w1 ⟨bb,k,m,rfl,hk,hm,ha,hbg,b1⟩
  obtain rfl := bits_zero' hk
  obtain rfl : m = 0 := hm
  clear ha hk bw
  have b2 : Below w1.heap.size w1 (w1.alloc (.cells (zeros .u64 0) 22)) := by go_grown
  have hBw := b0.trans (b1.mono b0.size)
  have hsz := hBw.size
  have hB2 := hBw.trans (b2.mono hsz)
  go_wp2_with fail
  go_loopg [18] 0 (fun n i wr => i = .int .i64 0 ∧ (w1.alloc (.cells (zeros .u64 0) 22)) = wr)
  case atStart => exact ⟨rfl,rfl⟩
  case round =>
    obtain ⟨rfl,rfl⟩ := hrel
    go_wp2_with fail
    go_ret
    exact ⟨_,rfl,hsz,hB2⟩
end Go.Proofs.YtogildikglomkaaGreatDoor
