/- WhoU GcdU -/
import Derived.Test.YtgccgacpifebbaaGreatDoorZb30
import Derived.Test.YtgccgacpifebbaaGreatDoorZb32
import Derived.Deep.QuietTactic
import Derived.BigQuiet
import Derived.Deep.LoopGhost
import Derived.Test.YtgccgacpifebbaaGreatDoorZb11
import Derived.Test.YtgccgacpifebbaaGreatDoorZb21
import Derived.Deep.RegionHeld3
import Derived.Test.YtgccgacpifebbaaGreatDoorZb23
namespace Go.Proofs.YtgccgacpifebbaaGreatDoor
open Go.RowKit
set_option linter.unusedVariables false
set_option maxRecDepth 100000 in
theorem word_in (b : Nat) (t : TypeId) (len cap i : Nat) (l : List Int) (hl : len ≤ l.length) (hi : i < len) (hm : len ≤ 1000000) (w : World) (ha : Arr w b t .u64 l) : Calls Tryz.prog 97 #[.slice (some ⟨b,0,none⟩) len cap,.int .i64 i] w fun e w' => e = .returned (.int .u64 (l.getD i 0)) ∧ w' = w := by
  have hc := ha.cell i (by omega)
  have h1 : ¬ (i : Int) < 0 := by omega
  have h2 : ¬ (len : Int) ≤ (i : Int) := by omega
  go_enter Tryz.func97,Tryz.ntmps97
  go_wp2_with fail
  go_ret
  exact ⟨rfl,rfl⟩
set_option maxRecDepth 100000 in
theorem word_neg (v : Value) (i : Int) (hi : i < 0) (w : World) : Calls Tryz.prog 97 #[v,.int .i64 i] w fun e w' => e = .returned (.int .u64 0) ∧ w' = w := by
  go_enter Tryz.func97,Tryz.ntmps97
  go_wp2_with fail
  go_ret
  exact ⟨rfl,rfl⟩
end Go.Proofs.YtgccgacpifebbaaGreatDoor
namespace Go.Proofs.YtgccgacpifebbaaGreatDoor
open Go.RowKit
set_option linter.unusedVariables false
/-- A variable of two lines. -/
def Row4 (w : World) (c : Nat) (x y z u : Int) : Prop := w.heap[c]? = some (.cells #[.int .i64 x,.int .i64 y,.int .i64 z,.int .i64 u] 110 (0,0))
section
variable {w w' : World} {c : Nat} {x y z u : Int}
theorem Row4.lt (h : Row4 w c x y z u) : c < w.heap.size := (Array.getElem?_eq_some_iff.1 h).1
theorem Row4.cell0 (h : Row4 w c x y z u) : w.cell? ⟨c,0,none⟩ = some (.int .i64 x) := by rw [cell_of_row w c 0 _ _ (0,0) h]; rfl
theorem Row4.cell1 (h : Row4 w c x y z u) : w.cell? ⟨c,1,none⟩ = some (.int .i64 y) := by rw [cell_of_row w c 1 _ _ (0,0) h]; rfl
theorem Row4.cell2 (h : Row4 w c x y z u) : w.cell? ⟨c,2,none⟩ = some (.int .i64 z) := by rw [cell_of_row w c 2 _ _ (0,0) h]; rfl
theorem Row4.cell3 (h : Row4 w c x y z u) : w.cell? ⟨c,3,none⟩ = some (.int .i64 u) := by rw [cell_of_row w c 3 _ _ (0,0) h]; rfl
theorem Row4.free (h : Row4 w c x y z u) (i : Nat) : w.frozen? ⟨c,i,none⟩ = false := frozen_of_row w c i _ _ h
theorem Row4.below {B : Nat} (h : Row4 w c x y z u) (hb : Below B w w') (hc : c < B) : Row4 w' c x y z u := (hb.block c hc).trans h
theorem Row4.set4 (h : Row4 w c x y z u) (x' y' z' u' : Int) : Row4 ((((w.setCell ⟨c,0,none⟩ (.int .i64 x')).setCell ⟨c,1,none⟩ (.int .i64 y')).setCell ⟨c,2,none⟩ (.int .i64 z')).setCell ⟨c,3,none⟩ (.int .i64 u')) c x' y' z' u' := by
  have g1 := heap_setCell_same w c 0 _ _ (.int .i64 x') h
  have g2 := heap_setCell_same _ c 1 _ _ (.int .i64 y') g1
  have g3 := heap_setCell_same _ c 2 _ _ (.int .i64 z') g2
  have g4 := heap_setCell_same _ c 3 _ _ (.int .i64 u') g3
  exact g4
end
theorem below_set4 {B c : Nat} {a w : World} (h : Below B a w) (hB : B ≤ c) (x y z u : Value) : Below B a ((((w.setCell ⟨c,0,none⟩ x).setCell ⟨c,1,none⟩ y).setCell ⟨c,2,none⟩ z).setCell ⟨c,3,none⟩ u) :=
  (((h.setCell (p := ⟨c,0,none⟩) hB x).setCell (p := ⟨c,1,none⟩) hB y).setCell (p := ⟨c,2,none⟩) hB z).setCell (p := ⟨c,3,none⟩) hB u
end Go.Proofs.YtgccgacpifebbaaGreatDoor
namespace Go.Proofs.YtgccgacpifebbaaGreatDoor
open Go.RowKit
set_option linter.unusedVariables false
end Go.Proofs.YtgccgacpifebbaaGreatDoor
namespace Go.Proofs.YtgccgacpifebbaaGreatDoor
open Go.RowKit
set_option linter.unusedVariables false
end Go.Proofs.YtgccgacpifebbaaGreatDoor
namespace Go.Proofs.YtgccgacpifebbaaGreatDoor
open Go.RowKit
set_option linter.unusedVariables false
/-- Of what was there only what p tells has turned. -/
def Only (w w' : World) (p : Nat → Prop) : Prop := w'.os = w.os ∧ w'.tape = w.tape ∧ w'.output = w.output ∧ w.heap.size ≤ w'.heap.size ∧ ∀ k,k < w.heap.size → ¬ p k → w'.heap[k]? = w.heap[k]?
theorem Only.refl (w : World) (p : Nat → Prop) : Only w w p := ⟨rfl,rfl,rfl,Nat.le_refl _,fun _ _ _ => rfl⟩
theorem Only.trans {a b c : World} {p : Nat → Prop} (h : Only a b p) (g : Only b c p) : Only a c p :=
  ⟨g.1.trans h.1,g.2.1.trans h.2.1,g.2.2.1.trans h.2.2.1,Nat.le_trans h.2.2.2.1 g.2.2.2.1,fun k hk hp => (g.2.2.2.2 k (Nat.lt_of_lt_of_le hk h.2.2.2.1) hp).trans (h.2.2.2.2 k hk hp)⟩
theorem Only.below {a b c : World} {p : Nat → Prop} (h : Only a b p) (g : Below b.heap.size b c) : Only a c p :=
  h.trans ⟨g.os,g.tape,g.output,g.size,fun k hk _ => g.block k hk⟩
theorem Only.set {a b : World} {p : Nat → Prop} (h : Only a b p) {q : Nat} (hq : p q) (i : Nat) (v : Value) : Only a (b.setCell ⟨q,i,none⟩ v) p :=
  h.trans ⟨rfl,rfl,rfl,by simp [World.setCell],fun k _ hk => heap_setCell_other b ⟨q,i,none⟩ k v (fun e => hk (by rw [show k = q from e]; exact hq))⟩
theorem Only.mono {a b : World} {p r : Nat → Prop} (h : Only a b p) (hpr : ∀ k,p k → k < a.heap.size → r k) : Only a b r :=
  ⟨h.1,h.2.1,h.2.2.1,h.2.2.2.1,fun k hk hr => h.2.2.2.2 k hk (fun hp => hr (hpr k hp hk))⟩
theorem Only.toBelow {a b : World} {p : Nat → Prop} {B : Nat} (h : Only a b p) (hB : B ≤ a.heap.size) (hp : ∀ k,p k → B ≤ k) : Below B a b :=
  ⟨h.1,h.2.1,h.2.2.1,h.2.2.2.1,fun k hk => h.2.2.2.2 k (by omega) (fun hpk => by have := hp k hpk; omega)⟩
end Go.Proofs.YtgccgacpifebbaaGreatDoor
namespace Go.Proofs.YtgccgacpifebbaaGreatDoor
open Go.RowKit
set_option linter.unusedVariables false
end Go.Proofs.YtgccgacpifebbaaGreatDoor
namespace Go.Proofs.YtgccgacpifebbaaGreatDoor
open Go.RowKit
set_option linter.unusedVariables false
/-- So stand the steps of Euclid's row: s is the sign, a to d the sizes, X and Y what is left of x0 and y0. -/
structure Sure (x0 y0 s a b c d X Y : Int) : Prop where
  s1 : s = 1 ∨ s = -1
  a0 : 0 ≤ a
  b0 : 0 ≤ b
  c0 : 0 ≤ c
  d1 : 1 ≤ d
  X0 : 0 ≤ X
  Y0 : 0 ≤ Y
  det : a * d - b * c = s
  ex : d * X + b * Y = x0
  ey : c * X + a * Y = y0
  cd : c ≤ d
  bd : b ≤ d
  ab : (a ≤ b ∧ 1 ≤ c) ∨ (a = 1 ∧ b = 0 ∧ c = 0 ∧ d = 1)
theorem Sure.first {x y : Int} (hx : 0 ≤ x) (hy : 0 ≤ y) : Sure x y 1 1 0 0 1 x y :=
  ⟨.inl rfl,by decide,by decide,by decide,by decide,hx,hy,by decide,by omega,by omega,by decide,by decide,.inr ⟨rfl,rfl,rfl,rfl⟩⟩
theorem Sure.next {x0 y0 s a b c d X Y : Int} (h : Sure x0 y0 s a b c d X Y) (h1 : d ≤ Y) (h2 : b + d ≤ X - Y) : Sure x0 y0 (-s) c d (a + X / Y * c) (b + X / Y * d) Y (X - X / Y * Y) ∧ 1 ≤ X / Y ∧ X - X / Y * Y < Y := by
  have hY : 0 < Y := by have := h.d1; omega
  have hq : 1 ≤ X / Y := (Int.le_ediv_iff_mul_le hY).2 (by have := h.b0; have := h.d1; omega)
  have hm := Int.emod_nonneg X (show Y ≠ 0 by omega)
  have hl := Int.emod_lt_of_pos X hY
  have he := Int.mul_ediv_add_emod X Y
  rw [Int.mul_comm] at he
  generalize X / Y = q at *
  have hr : X - q * Y = X % Y := by omega
  have qc := Int.mul_nonneg (show 0 ≤ q by omega) h.c0
  have qd : 1 * d ≤ q * d := Int.mul_le_mul_of_nonneg_right hq (by have := h.d1; omega)
  have qcd : q * c ≤ q * d := Int.mul_le_mul_of_nonneg_left h.cd (by omega)
  have ha := h.a0
  have hb := h.b0
  have hc := h.c0
  have hd := h.d1
  refine ⟨⟨by rcases h.s1 with e | e <;> omega,h.c0,by omega,by omega,by omega,by omega,by omega,?_,?_,?_,?_,by omega,.inl ⟨h.cd,?_⟩⟩,hq,by omega⟩
  · have := h.det
    rw [Int.mul_add,Int.mul_add]
    have e1 : c * (q * d) = d * (q * c) := by rw [Int.mul_left_comm,Int.mul_left_comm d,Int.mul_comm c d]
    have e2 := Int.mul_comm c b
    have e3 := Int.mul_comm d a
    omega
  · have := h.ex
    rw [← this,Int.add_mul,Int.mul_sub]
    have e1 : d * (q * Y) = q * d * Y := by rw [← Int.mul_assoc,Int.mul_comm d q]
    omega
  · have := h.ey
    rw [← this,Int.add_mul,Int.mul_sub]
    have e1 : c * (q * Y) = q * c * Y := by rw [← Int.mul_assoc,Int.mul_comm c q]
    omega
  · rcases h.ab with ⟨h3,_⟩ | ⟨h3,h4,h5,h6⟩
    · omega
    · subst h3 h4 h5 h6; omega
  · rcases h.ab with ⟨_,h3⟩ | ⟨h3,h4,h5,h6⟩
    · have : 1 * c ≤ q * c := Int.mul_le_mul_of_nonneg_right hq h.c0
      omega
    · omega
/-- A state after a step, or the first: d is within the first number, so is what stands beside it as the second is not below it. -/
theorem Sure.small {x0 y0 s a b c d X Y : Int} (h : Sure x0 y0 s a b c d X Y) (hx : Y < X) (hx0 : x0 < 9223372036854775808) : d < 9223372036854775808 := by
  have h1 : d * 1 ≤ d * X := Int.mul_le_mul_of_nonneg_left (by have := h.Y0; omega) (by have := h.d1; omega)
  have h2 := Int.mul_nonneg h.b0 h.Y0
  have := h.ex
  omega
theorem Sure.small2 {x0 y0 s a b c d X Y : Int} (h : Sure x0 y0 s a b c d X Y) (hx : Y < X) (hy : d ≤ Y) (hx0 : x0 < 9223372036854775808) : b + d < 9223372036854775808 := by
  have h1 : d * 2 ≤ d * X := Int.mul_le_mul_of_nonneg_left (by have := h.d1; omega) (by have := h.d1; omega)
  have h2 := Int.mul_nonneg h.b0 h.Y0
  have := h.ex
  have := h.bd
  omega
/-- What is told: nothing, or the last steps that were sure. -/
def Told (x0 y0 p q r t : Int) : Prop := q = 0 ∨ ∃ s a b c d X Y,Sure x0 y0 s a b c d X Y ∧ d ≤ Y ∧ b + d ≤ X - Y ∧ p = s * a ∧ q = -(s * b) ∧ r = -(s * c) ∧ t = s * d
set_option maxRecDepth 100000 in
theorem size_all (n : Int) (hn : -9223372036854775808 < n ∧ n < 9223372036854775808) (w : World) : Calls Tryz.prog 95 #[.int .i64 n] w fun e w' => e = .returned (.int .i64 (absI n)) ∧ w' = w := by
  have e1 : IntKind.i64.wrap (-n) = -n := by rw [IntKind.wrap_i64]; omega
  have e2 : max n (-n) = absI n := by unfold absI; split <;> omega
  go_enter Tryz.func95,Tryz.ntmps95
  go_wp2_with fail
  go_ret
  exact ⟨by rw [← e2]; rfl,rfl⟩
/-- What holds at a round's beginning. -/
structure SureI (x0 y0 s a b c d X Y U0 V0 U1 V1 p q r t : Int) : Prop where
  h : Sure x0 y0 s a b c d X Y
  u0 : U0 = s * a
  v0 : V0 = -(s * b)
  u1 : U1 = -(s * c)
  v1 : V1 = s * d
  db : d < 9223372036854775808
  bb : d ≤ Y → b + d < 9223372036854775808
  Xb : X < 9223372036854775808
  Yb : Y < 9223372036854775808
  told : Told x0 y0 p q r t
theorem SureI.next {x0 y0 s a b c d X Y U0 V0 U1 V1 p q r t : Int} (k : SureI x0 y0 s a b c d X Y U0 V0 U1 V1 p q r t) (hx0 : x0 < 9223372036854775808) (h1 : d ≤ Y) (h2 : b + d ≤ X - Y) :
    SureI x0 y0 (-s) c d (a + X / Y * c) (b + X / Y * d) Y (X - X / Y * Y) U1 V1 (U0 - X / Y * U1) (V0 - X / Y * V1) U0 V0 U1 V1 := by
  obtain ⟨n,hq,hl⟩ := k.h.next h1 h2
  refine ⟨n,?_,?_,?_,?_,n.small hl hx0,fun e => n.small2 hl e hx0,k.Yb,by have := k.Yb; omega,.inr ⟨s,a,b,c,d,X,Y,k.h,h1,h2,k.u0,k.v0,k.u1,k.v1⟩⟩
  · rw [k.u1,Int.neg_mul]
  · rw [k.v1,Int.neg_mul,Int.neg_neg]
  · rw [k.u0,k.u1,Int.neg_mul,Int.neg_neg,Int.mul_add,Int.mul_neg,Int.mul_left_comm]; omega
  · rw [k.v0,k.v1,Int.neg_mul,Int.mul_add,Int.mul_left_comm]; omega
/-- What is no overflow in a round. -/
theorem SureI.bounds {x0 y0 s a b c d X Y U0 V0 U1 V1 p q r t : Int} (k : SureI x0 y0 s a b c d X Y U0 V0 U1 V1 p q r t) :
    (-9223372036854775808 < U0 ∧ U0 < 9223372036854775808) ∧ (-9223372036854775808 < V0 ∧ V0 < 9223372036854775808) ∧ (-9223372036854775808 < U1 ∧ U1 < 9223372036854775808) ∧ (-9223372036854775808 < V1 ∧ V1 < 9223372036854775808) := by
  obtain ⟨h,e0,e1,e2,e3,hd,-,-,-,-⟩ := k
  have := h.a0
  have := h.b0
  have := h.c0
  have := h.d1
  have := h.cd
  have := h.bd
  have h9 := h.ab
  rcases h.s1 with e | e <;> subst e <;> simp only [Int.one_mul,Int.neg_mul,Int.neg_neg] at e0 e1 e2 e3 <;> subst e0 e1 e2 e3 <;> refine ⟨⟨?_,?_⟩,⟨?_,?_⟩,⟨?_,?_⟩,?_,?_⟩ <;> omega
theorem SureI.v {x0 y0 s a b c d X Y U0 V0 U1 V1 p q r t : Int} (k : SureI x0 y0 s a b c d X Y U0 V0 U1 V1 p q r t) : absI V1 = d ∧ absI (V0 - V1) = b + d := by
  obtain ⟨h,e0,e1,e2,e3,hd,-,-,-,-⟩ := k
  have := h.b0
  have := h.d1
  unfold absI
  rcases h.s1 with e | e <;> subst e <;> simp only [Int.one_mul,Int.neg_mul,Int.neg_neg] at e1 e3 <;> subst e1 e3 <;> refine ⟨?_,?_⟩ <;> split <;> omega
theorem SureI.prod {x0 y0 s a b c d X Y U0 V0 U1 V1 p q r t : Int} (k : SureI x0 y0 s a b c d X Y U0 V0 U1 V1 p q r t) (hx0 : x0 < 9223372036854775808) (h1 : d ≤ Y) (h2 : b + d ≤ X - Y) :
    (-9223372036854775808 < X / Y * U1 ∧ X / Y * U1 < 9223372036854775808) ∧ (-9223372036854775808 < X / Y * V1 ∧ X / Y * V1 < 9223372036854775808) := by
  obtain ⟨n,hq,hl⟩ := k.h.next h1 h2
  have h3 := n.small hl hx0
  have h4 := n.cd
  obtain ⟨h,e0,e1,e2,e3,hd,-,-,-,-⟩ := k
  have := h.a0
  have := h.b0
  have qc := Int.mul_nonneg (show 0 ≤ X / Y by omega) h.c0
  have qd := Int.mul_nonneg (show 0 ≤ X / Y by omega) (show 0 ≤ d by have := h.d1; omega)
  generalize X / Y = Q at *
  rcases h.s1 with e | e <;> subst e <;> simp only [Int.one_mul,Int.neg_mul,Int.neg_neg] at e0 e1 e2 e3 <;> subst e0 e1 e2 e3 <;> simp only [Int.mul_neg] <;> refine ⟨⟨?_,?_⟩,?_,?_⟩ <;> omega
/-- What the steps tell, with n rounds at most. -/
def sureF : Nat → Int → Int → Int → Int → Int → Int → Int → Int → Int → Int → Int × Int × Int × Int
  | 0,_,_,_,_,_,_,p,q,r,t => (p,q,r,t)
  | n + 1,X,Y,U0,V0,U1,V1,p,q,r,t => if absI V1 ≤ Y ∧ absI (V0 - V1) ≤ X - Y then sureF n Y (X - X / Y * Y) U1 V1 (U0 - X / Y * U1) (V0 - X / Y * V1) U0 V0 U1 V1 else (p,q,r,t)
theorem sureF_told {x0 y0 : Int} (hx0 : x0 < 9223372036854775808) : ∀ (n : Nat) {s a b c d X Y U0 V0 U1 V1 p q r t : Int},SureI x0 y0 s a b c d X Y U0 V0 U1 V1 p q r t → Told x0 y0 (sureF n X Y U0 V0 U1 V1 p q r t).1 (sureF n X Y U0 V0 U1 V1 p q r t).2.1 (sureF n X Y U0 V0 U1 V1 p q r t).2.2.1 (sureF n X Y U0 V0 U1 V1 p q r t).2.2.2
  | 0,_,_,_,_,_,_,_,_,_,_,_,_,_,_,_,k => k.told
  | n + 1,_,_,_,_,_,_,_,_,_,_,_,_,_,_,_,k => by
    obtain ⟨z1,z2⟩ := k.v
    unfold sureF
    split
    · rename_i h
      rw [z1,z2] at h
      exact sureF_told hx0 n (k.next hx0 h.1 h.2)
    · exact k.told
set_option maxRecDepth 100000 in
set_option maxHeartbeats 4000000 in
theorem sure_det (x y : Int) (hx : 0 ≤ x ∧ x < 9223372036854775808) (hy : 0 ≤ y ∧ y < 9223372036854775808) (z : Int × Int × Int × Int) (hz : sureF (y.toNat + 1) x y 1 0 0 1 0 0 0 0 = z) (w : World) : Calls Tryz.prog 64 #[.int .i64 x,.int .i64 y] w fun e w' =>
    e = .returned (.tuple #[.agg #[.int .i64 z.1,.int .i64 z.2.1,.int .i64 z.2.2.1,.int .i64 z.2.2.2],.bool (z.2.1 != 0)]) ∧ Below w.heap.size w w' := by
  have hR : Row4 (w.alloc (.cells #[.int .i64 0,.int .i64 0,.int .i64 0,.int .i64 0] 110)) w.heap.size 0 0 0 0 := heap_new w _ _ rfl
  have hB : Below w.heap.size w (w.alloc (.cells #[.int .i64 0,.int .i64 0,.int .i64 0,.int .i64 0] 110)) := by go_grown
  obtain ⟨cc,hc⟩ : ∃ c,w.heap.size = c := ⟨_,rfl⟩
  have hcw : w.heap.size ≤ cc := by omega
  rw [hc] at hR
  go_enter Tryz.func64,Tryz.ntmps64
  go_wp2_with fail
  go_loopg [0,1,6,7,8,9] y.toNat (fun g X' Y' u0 v0 u1 v1 wr => ∃ s a b c d X Y U0 V0 U1 V1 p q r t n,(Hid (Y.toNat < n) ∧ Hid (sureF n X Y U0 V0 U1 V1 p q r t = z)) ∧ X' = .int .i64 X ∧ Y' = .int .i64 Y ∧ u0 = .int .i64 U0 ∧ v0 = .int .i64 V0 ∧ u1 = .int .i64 U1 ∧ v1 = .int .i64 V1 ∧ g = Y.toNat ∧ SureI x y s a b c d X Y U0 V0 U1 V1 p q r t ∧ Row4 wr cc p q r t ∧ Below w.heap.size w wr)
  case atStart => exact ⟨1,1,0,0,1,x,y,1,0,0,1,0,0,0,0,y.toNat + 1,⟨Lib.hid (by omega),Lib.hid hz⟩,rfl,rfl,rfl,rfl,rfl,rfl,rfl,⟨Sure.first hx.1 hy.1,rfl,rfl,rfl,rfl,by decide,fun _ => by decide,hx.2,hy.2,.inl rfl⟩,hR,hB⟩
  case round =>
    clear hR hB hc
    obtain ⟨s,a,b,c,d,X,Y,U0,V0,U1,V1,p,q,r,t,n,⟨hn,hF⟩,rfl,rfl,rfl,rfl,rfl,rfl,hg,K,hr,hb⟩ := hrel
    have c0 := hr.cell0
    have c1 := hr.cell1
    have c2 := hr.cell2
    have c3 := hr.cell3
    have f0 := hr.free 0
    have f1 := hr.free 1
    have f2 := hr.free 2
    have f3 := hr.free 3
    obtain ⟨⟨l0,g0⟩,⟨l1,g1⟩,⟨l2,g2⟩,l3,g3⟩ := K.bounds
    obtain ⟨z1,z2⟩ := K.v
    have X0 := K.h.X0
    have Y0 := K.h.Y0
    have Xb := K.Xb
    have Yb := K.Yb
    have d1 := K.h.d1
    have s1 := size_all V1 ⟨l3,g3⟩ wr
    rw [z1] at s1
    by_cases hc1 : d ≤ Y
    · have bb := K.bb hc1
      obtain ⟨l4,l5⟩ : -9223372036854775808 < V0 - V1 ∧ V0 - V1 < 9223372036854775808 := by unfold absI at z2; split at z2 <;> omega
      have s2 := size_all (V0 - V1) ⟨l4,l5⟩ wr
      rw [z2] at s2
      by_cases hc2 : b + d ≤ X - Y
      · have N := K.next hx.2 hc1 hc2
        obtain ⟨⟨a1,a2⟩,a3,a4⟩ := K.prod hx.2 hc1 hc2
        have Q0 : 0 ≤ X / Y := Int.ediv_nonneg X0 Y0
        have Q1 : X / Y ≤ X := Int.ediv_le_self Y X0
        have m0 := Int.mul_nonneg Q0 Y0
        have m1 := N.h.Y0
        have m2 := Int.emod_lt_of_pos X (show 0 < Y by omega)
        have m3 := Int.mul_ediv_add_emod X Y
        rw [Int.mul_comm] at m3
        obtain ⟨⟨b1,b2⟩,⟨b3,b4⟩,⟨b5,b6⟩,b7,b8⟩ := N.bounds
        have z1' := z1
        have z2' := z2
        clear bb z1 z2 K
        obtain ⟨Q,hQ⟩ : ∃ Q,X / Y = Q := ⟨_,rfl⟩
        rw [hQ] at N Q0 Q1 m0 m1 m3 a1 a2 a3 a4 b5 b6 b7 b8
        obtain ⟨M,hM⟩ : ∃ M,Q * Y = M := ⟨_,rfl⟩
        rw [hM] at m0 m1 m3 N
        obtain ⟨M1,hM1⟩ : ∃ M,Q * U1 = M := ⟨_,rfl⟩
        rw [hM1] at a1 a2 b5 b6 N
        obtain ⟨M2,hM2⟩ : ∃ M,Q * V1 = M := ⟨_,rfl⟩
        rw [hM2] at a3 a4 b7 b8 N
        have HF : Hid (∃ m,Y.toNat ≤ m ∧ sureF m Y (X - M) U1 V1 (U0 - M1) (V0 - M2) U0 V0 U1 V1 = z) := Lib.hid (by
          have h := hF.out
          obtain ⟨m,rfl⟩ : ∃ m,n = m + 1 := ⟨n - 1,by have := hn.out; omega⟩
          unfold sureF at h
          rw [if_pos (by rw [z1',z2']; exact ⟨hc1,hc2⟩),hQ,hM,hM1,hM2] at h
          exact ⟨m,by have := hn.out; omega,h⟩)
        have HN := Lib.hid N
        clear z1' z2'
        clear N b1 b2 b3 b4
        have hYX : Hid ((X - M).toNat < Y.toNat) := Lib.hid (by omega)
        have Hg := Lib.hid hg
        clear m2 m3 hg
        have hr2 := hr.set4 U0 V0 U1 V1
        have hb2 := below_set4 hb hcw (.int .i64 U0) (.int .i64 V0) (.int .i64 U1) (.int .i64 V1)
        go_wp2_with fail
        refine s1.mono ?_
        rintro e w' ⟨rfl,rfl⟩
        go_wp2_with fail
        refine s2.mono ?_
        rintro e w' ⟨rfl,rfl⟩
        go_wp2_with fail
        go_roundg (X - M).toNat
        case measure => rw [Hg.out]; exact hYX.out
        case rel =>
          obtain ⟨m,hm,h⟩ := HF.out
          exact ⟨_,_,_,_,_,_,_,_,_,_,_,_,_,_,_,m,⟨Lib.hid (Nat.lt_of_lt_of_le hYX.out hm),Lib.hid h⟩,rfl,rfl,rfl,rfl,rfl,rfl,rfl,HN.out,hr2,hb2⟩
      · have hz : Hid ((p,q,r,t) = z) := Lib.hid (by
          have h := hF.out
          obtain ⟨m,rfl⟩ : ∃ m,n = m + 1 := ⟨n - 1,by have := hn.out; omega⟩
          unfold sureF at h
          rw [if_neg (by rw [z1,z2]; exact fun e => hc2 e.2)] at h
          exact h)
        clear z1 z2
        go_wp2_with fail
        refine s1.mono ?_
        rintro e w' ⟨rfl,rfl⟩
        go_wp2_with fail
        refine s2.mono ?_
        rintro e w' ⟨rfl,rfl⟩
        have hr2 := hr.set4 p q r t
        have hb2 := below_set4 hb hcw (.int .i64 p) (.int .i64 q) (.int .i64 r) (.int .i64 t)
        go_wp2_with fail
        refine bodyPost_ret (v := .tuple #[.agg #[.int .i64 p,.int .i64 q,.int .i64 r,.int .i64 t],.bool (q != 0)]) ?_ rfl ⟨by rw [← hz.out],hb2⟩
        simp [results,Tryz.results64,asAddr,run_loadVar_row _ cc _ 110 _ (0,0) _ hr2 Tryz.underlying110 rfl (by kernel_rfl)]
    · have hz : Hid ((p,q,r,t) = z) := Lib.hid (by
        have h := hF.out
        obtain ⟨m,rfl⟩ : ∃ m,n = m + 1 := ⟨n - 1,by have := hn.out; omega⟩
        unfold sureF at h
        rw [if_neg (by rw [z1]; exact fun e => hc1 e.1)] at h
        exact h)
      clear z1 z2
      go_wp2_with fail
      refine s1.mono ?_
      rintro e w' ⟨rfl,rfl⟩
      have hr2 := hr.set4 p q r t
      have hb2 := below_set4 hb hcw (.int .i64 p) (.int .i64 q) (.int .i64 r) (.int .i64 t)
      go_wp2_with fail
      refine bodyPost_ret (v := .tuple #[.agg #[.int .i64 p,.int .i64 q,.int .i64 r,.int .i64 t],.bool (q != 0)]) ?_ rfl ⟨by rw [← hz.out],hb2⟩
      simp [results,Tryz.results64,asAddr,run_loadVar_row _ cc _ 110 _ (0,0) _ hr2 Tryz.underlying110 rfl (by kernel_rfl)]
theorem sure_any (x y : Int) (hx : 0 ≤ x ∧ x < 9223372036854775808) (hy : 0 ≤ y ∧ y < 9223372036854775808) : ∃ p q r t,Told x y p q r t ∧ ∀ w,Calls Tryz.prog 64 #[.int .i64 x,.int .i64 y] w fun e w' =>
    e = .returned (.tuple #[.agg #[.int .i64 p,.int .i64 q,.int .i64 r,.int .i64 t],.bool (q != 0)]) ∧ Below w.heap.size w w' :=
  ⟨_,_,_,_,sureF_told hx.2 (y.toNat + 1) ⟨Sure.first hx.1 hy.1,rfl,rfl,rfl,rfl,by decide,fun _ => by decide,hx.2,hy.2,.inl rfl⟩,fun w => sure_det x y hx hy _ rfl w⟩
end Go.Proofs.YtgccgacpifebbaaGreatDoor
