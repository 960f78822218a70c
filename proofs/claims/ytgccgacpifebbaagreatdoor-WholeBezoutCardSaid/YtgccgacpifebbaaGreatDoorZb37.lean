/- WhoQ -/
import Derived.Test.YtgccgacpifebbaaGreatDoorZb29
import Derived.Test.YtgccgacpifebbaaGreatDoorZb33
import Derived.Test.YtgccgacpifebbaaGreatDoorZb28
import Derived.Test.YtgccgacpifebbaaGreatDoorZb04
import Derived.Test.YtgccgacpifebbaaGreatDoorZb17
import Derived.Test.YtgccgacpifebbaaGreatDoorZb21
import Derived.BigRegionIn
import Derived.Test.YtgccgacpifebbaaGreatDoorZb31
import Derived.Test.YtgccgacpifebbaaGreatDoorZb18
import Derived.Deep.LoopGhost
namespace Go.Proofs.YtgccgacpifebbaaGreatDoor
open Go.RowKit
set_option linter.unusedVariables false
/-- A variable of two Ints,side by side. -/
def Row6 (w : World) (b : Nat) (t : TypeId) (v0 v1 v2 v3 v4 v5 : Value) : Prop := w.heap[b]? = some (.cells #[v0,v1,v2,v3,v4,v5] t (0,0))
section
variable {w w' : World} {b : Nat} {t : TypeId} {v0 v1 v2 v3 v4 v5 : Value}
theorem Row6.lt (h : Row6 w b t v0 v1 v2 v3 v4 v5) : b < w.heap.size := (Array.getElem?_eq_some_iff.1 h).1
theorem Row6.cell0 (h : Row6 w b t v0 v1 v2 v3 v4 v5) : w.cell? ⟨b,0,none⟩ = some v0 := by rw [cell_of_row w b 0 _ _ (0,0) h]; rfl
theorem Row6.cell1 (h : Row6 w b t v0 v1 v2 v3 v4 v5) : w.cell? ⟨b,1,none⟩ = some v1 := by rw [cell_of_row w b 1 _ _ (0,0) h]; rfl
theorem Row6.cell2 (h : Row6 w b t v0 v1 v2 v3 v4 v5) : w.cell? ⟨b,2,none⟩ = some v2 := by rw [cell_of_row w b 2 _ _ (0,0) h]; rfl
theorem Row6.cell3 (h : Row6 w b t v0 v1 v2 v3 v4 v5) : w.cell? ⟨b,3,none⟩ = some v3 := by rw [cell_of_row w b 3 _ _ (0,0) h]; rfl
theorem Row6.cell4 (h : Row6 w b t v0 v1 v2 v3 v4 v5) : w.cell? ⟨b,4,none⟩ = some v4 := by rw [cell_of_row w b 4 _ _ (0,0) h]; rfl
theorem Row6.cell5 (h : Row6 w b t v0 v1 v2 v3 v4 v5) : w.cell? ⟨b,5,none⟩ = some v5 := by rw [cell_of_row w b 5 _ _ (0,0) h]; rfl
theorem Row6.free (h : Row6 w b t v0 v1 v2 v3 v4 v5) (i : Nat) : w.frozen? ⟨b,i,none⟩ = false := frozen_of_row w b i _ _ h
theorem Row6.below {B : Nat} (h : Row6 w b t v0 v1 v2 v3 v4 v5) (hb : Below B w w') (hB : b < B) : Row6 w' b t v0 v1 v2 v3 v4 v5 := (hb.block b hB).trans h
theorem Row6.alloc (h : Row6 w b t v0 v1 v2 v3 v4 v5) (o : Obj) : Row6 (w.alloc o) b t v0 v1 v2 v3 v4 v5 := (heap_alloc_old w o h.lt).trans h
theorem Row6.drew (h : Row6 w b t v0 v1 v2 v3 v4 v5) : Row6 w.drew b t v0 v1 v2 v3 v4 v5 := h
theorem Row6.other (h : Row6 w b t v0 v1 v2 v3 v4 v5) {a : Addr} (ha : b ≠ a.block) (v : Value) : Row6 (w.setCell a v) b t v0 v1 v2 v3 v4 v5 := (heap_setCell_other w a b v ha).trans h
theorem Row6.set0 (h : Row6 w b t v0 v1 v2 v3 v4 v5) (x y z : Value) : Row6 (((w.setCell ⟨b,0,none⟩ x).setCell ⟨b,1,none⟩ y).setCell ⟨b,2,none⟩ z) b t x y z v3 v4 v5 := by
  have g1 := heap_setCell_same w b 0 _ _ x h
  have g2 := heap_setCell_same _ b 1 _ _ y g1
  have g3 := heap_setCell_same _ b 2 _ _ z g2
  exact g3
theorem Row6.set3 (h : Row6 w b t v0 v1 v2 v3 v4 v5) (x y z : Value) : Row6 (((w.setCell ⟨b,3,none⟩ x).setCell ⟨b,4,none⟩ y).setCell ⟨b,5,none⟩ z) b t v0 v1 v2 x y z := by
  have g1 := heap_setCell_same w b 3 _ _ x h
  have g2 := heap_setCell_same _ b 4 _ _ y g1
  have g3 := heap_setCell_same _ b 5 _ _ z g2
  exact g3
end
theorem below_new6 {B : Nat} (w : World) (o : Obj) (hB : B ≤ w.heap.size) : Below B w (w.alloc o) := (Below.refl B w).alloc hB o
theorem IsInt.belowB {w w' : World} {v : Value} {z : Int} (h : IsInt w v z) (hb : Below w.heap.size w w') : IsInt w' v z := h.below hb
theorem absI_mul_lt {a b : Int} {K : Nat} (ha : absI a < pw K) (hb : absI b < pw K) : absI (a * b) < pw (K + K) := by
  have e : absI (a * b) = absI a * absI b := by
    unfold absI
    by_cases h1 : a < 0 <;> by_cases h2 : b < 0
    · have := Int.mul_pos_of_neg_of_neg h1 h2
      rw [if_neg (by omega),if_pos h1,if_pos h2,Int.neg_mul_neg]
    · rw [if_pos h1,if_neg h2,Int.neg_mul]
      have := Int.mul_nonpos_of_nonpos_of_nonneg (Int.le_of_lt h1) (Int.not_lt.1 h2)
      split <;> omega
    · rw [if_neg h1,if_pos h2,Int.mul_neg]
      have := Int.mul_nonpos_of_nonneg_of_nonpos (Int.not_lt.1 h1) (Int.le_of_lt h2)
      split <;> omega
    · have := Int.mul_nonneg (Int.not_lt.1 h1) (Int.not_lt.1 h2)
      rw [if_neg (by omega),if_neg h1,if_neg h2]
  rw [e,pw_add]
  exact Int.lt_of_le_of_lt (Int.mul_le_mul_of_nonneg_left (Int.le_of_lt hb) (absI_nonneg a)) (Int.mul_lt_mul_of_pos_right ha (pw_pos K))
theorem IsNat.sets {w : World} {v : Value} {n : Int} {c i : Nat} {p : Option Addr} {m q : Nat} (h : IsNat w v n) (hc : w.cell? ⟨c,i,none⟩ = some (.slice p m q)) (i0 i1 i2 : Nat) (x y z : Value) : IsNat (((w.setCell ⟨c,i0,none⟩ x).setCell ⟨c,i1,none⟩ y).setCell ⟨c,i2,none⟩ z) v n := by
  rcases h with h | ⟨b,t,len,cap,l,hv,ha,r⟩
  · exact .inl h
  · have hne := ha.ne_slice hc
    exact .inr ⟨b,t,len,cap,l,hv,((ha.other (a := ⟨c,i0,none⟩) hne _).other (a := ⟨c,i1,none⟩) hne _).other (a := ⟨c,i2,none⟩) hne _,r⟩
end Go.Proofs.YtgccgacpifebbaaGreatDoor
namespace Go.Proofs.YtgccgacpifebbaaGreatDoor
open Go.RowKit
set_option linter.unusedVariables false
/-- The value v is a turn. -/
def IsTurn (w : World) (v : Value) (A0 A1 B0 B1 : Int) : Prop := ∃ t0 t1 u0 u1 y0 y1 z0 z1 q0 q1 r0 r1 m0 m1 n0 n1 d0 d1 e0 e1,v = .agg #[.bool t0,.int .u64 y0,.slice q0 m0 d0,.bool t1,.int .u64 y1,.slice q1 m1 d1,.bool u0,.int .u64 z0,.slice r0 n0 e0,.bool u1,.int .u64 z1,.slice r1 n1 e1] ∧
  IsInt w (.agg #[.bool t0,.int .u64 y0,.slice q0 m0 d0]) A0 ∧ IsInt w (.agg #[.bool t1,.int .u64 y1,.slice q1 m1 d1]) A1 ∧ IsInt w (.agg #[.bool u0,.int .u64 z0,.slice r0 n0 e0]) B0 ∧ IsInt w (.agg #[.bool u1,.int .u64 z1,.slice r1 n1 e1]) B1
/-- A variable of four Ints. -/
def Row12 (w : World) (b : Nat) (v0 v1 v2 v3 v4 v5 v6 v7 v8 v9 v10 v11 : Value) : Prop := w.heap[b]? = some (.cells #[v0,v1,v2,v3,v4,v5,v6,v7,v8,v9,v10,v11] 73 (0,0))
section
variable {w w' : World} {b : Nat} {v0 v1 v2 v3 v4 v5 v6 v7 v8 v9 v10 v11 : Value}
theorem Row12.lt (h : Row12 w b v0 v1 v2 v3 v4 v5 v6 v7 v8 v9 v10 v11) : b < w.heap.size := (Array.getElem?_eq_some_iff.1 h).1
theorem Row12.cell0 (h : Row12 w b v0 v1 v2 v3 v4 v5 v6 v7 v8 v9 v10 v11) : w.cell? ⟨b,0,none⟩ = some v0 := by rw [cell_of_row w b 0 _ _ (0,0) h]; rfl
theorem Row12.cell1 (h : Row12 w b v0 v1 v2 v3 v4 v5 v6 v7 v8 v9 v10 v11) : w.cell? ⟨b,1,none⟩ = some v1 := by rw [cell_of_row w b 1 _ _ (0,0) h]; rfl
theorem Row12.cell2 (h : Row12 w b v0 v1 v2 v3 v4 v5 v6 v7 v8 v9 v10 v11) : w.cell? ⟨b,2,none⟩ = some v2 := by rw [cell_of_row w b 2 _ _ (0,0) h]; rfl
theorem Row12.cell3 (h : Row12 w b v0 v1 v2 v3 v4 v5 v6 v7 v8 v9 v10 v11) : w.cell? ⟨b,3,none⟩ = some v3 := by rw [cell_of_row w b 3 _ _ (0,0) h]; rfl
theorem Row12.cell4 (h : Row12 w b v0 v1 v2 v3 v4 v5 v6 v7 v8 v9 v10 v11) : w.cell? ⟨b,4,none⟩ = some v4 := by rw [cell_of_row w b 4 _ _ (0,0) h]; rfl
theorem Row12.cell5 (h : Row12 w b v0 v1 v2 v3 v4 v5 v6 v7 v8 v9 v10 v11) : w.cell? ⟨b,5,none⟩ = some v5 := by rw [cell_of_row w b 5 _ _ (0,0) h]; rfl
theorem Row12.cell6 (h : Row12 w b v0 v1 v2 v3 v4 v5 v6 v7 v8 v9 v10 v11) : w.cell? ⟨b,6,none⟩ = some v6 := by rw [cell_of_row w b 6 _ _ (0,0) h]; rfl
theorem Row12.cell7 (h : Row12 w b v0 v1 v2 v3 v4 v5 v6 v7 v8 v9 v10 v11) : w.cell? ⟨b,7,none⟩ = some v7 := by rw [cell_of_row w b 7 _ _ (0,0) h]; rfl
theorem Row12.cell8 (h : Row12 w b v0 v1 v2 v3 v4 v5 v6 v7 v8 v9 v10 v11) : w.cell? ⟨b,8,none⟩ = some v8 := by rw [cell_of_row w b 8 _ _ (0,0) h]; rfl
theorem Row12.cell9 (h : Row12 w b v0 v1 v2 v3 v4 v5 v6 v7 v8 v9 v10 v11) : w.cell? ⟨b,9,none⟩ = some v9 := by rw [cell_of_row w b 9 _ _ (0,0) h]; rfl
theorem Row12.cell10 (h : Row12 w b v0 v1 v2 v3 v4 v5 v6 v7 v8 v9 v10 v11) : w.cell? ⟨b,10,none⟩ = some v10 := by rw [cell_of_row w b 10 _ _ (0,0) h]; rfl
theorem Row12.cell11 (h : Row12 w b v0 v1 v2 v3 v4 v5 v6 v7 v8 v9 v10 v11) : w.cell? ⟨b,11,none⟩ = some v11 := by rw [cell_of_row w b 11 _ _ (0,0) h]; rfl
theorem Row12.free (h : Row12 w b v0 v1 v2 v3 v4 v5 v6 v7 v8 v9 v10 v11) (i : Nat) : w.frozen? ⟨b,i,none⟩ = false := frozen_of_row w b i _ _ h
theorem Row12.below {B : Nat} (h : Row12 w b v0 v1 v2 v3 v4 v5 v6 v7 v8 v9 v10 v11) (hb : Below B w w') (hB : b < B) : Row12 w' b v0 v1 v2 v3 v4 v5 v6 v7 v8 v9 v10 v11 := (hb.block b hB).trans h
theorem Row12.drew (h : Row12 w b v0 v1 v2 v3 v4 v5 v6 v7 v8 v9 v10 v11) : Row12 w.drew b v0 v1 v2 v3 v4 v5 v6 v7 v8 v9 v10 v11 := h
theorem Row12.only {p : Nat → Prop} (h : Row12 w b v0 v1 v2 v3 v4 v5 v6 v7 v8 v9 v10 v11) (ho : Only w w' p) (hp : ¬ p b) : Row12 w' b v0 v1 v2 v3 v4 v5 v6 v7 v8 v9 v10 v11 := (ho.2.2.2.2 b h.lt hp).trans h
theorem Row12.set0 (h : Row12 w b v0 v1 v2 v3 v4 v5 v6 v7 v8 v9 v10 v11) (x y z : Value) : Row12 (((w.setCell ⟨b,0,none⟩ x).setCell ⟨b,1,none⟩ y).setCell ⟨b,2,none⟩ z) b x y z v3 v4 v5 v6 v7 v8 v9 v10 v11 := by
  have g1 := heap_setCell_same w b 0 _ _ x h
  have g2 := heap_setCell_same _ b 1 _ _ y g1
  have g3 := heap_setCell_same _ b 2 _ _ z g2
  exact g3
theorem Row12.set3 (h : Row12 w b v0 v1 v2 v3 v4 v5 v6 v7 v8 v9 v10 v11) (x y z : Value) : Row12 (((w.setCell ⟨b,3,none⟩ x).setCell ⟨b,4,none⟩ y).setCell ⟨b,5,none⟩ z) b v0 v1 v2 x y z v6 v7 v8 v9 v10 v11 := by
  have g1 := heap_setCell_same w b 3 _ _ x h
  have g2 := heap_setCell_same _ b 4 _ _ y g1
  have g3 := heap_setCell_same _ b 5 _ _ z g2
  exact g3
theorem Row12.set6 (h : Row12 w b v0 v1 v2 v3 v4 v5 v6 v7 v8 v9 v10 v11) (x y z : Value) : Row12 (((w.setCell ⟨b,6,none⟩ x).setCell ⟨b,7,none⟩ y).setCell ⟨b,8,none⟩ z) b v0 v1 v2 v3 v4 v5 x y z v9 v10 v11 := by
  have g1 := heap_setCell_same w b 6 _ _ x h
  have g2 := heap_setCell_same _ b 7 _ _ y g1
  have g3 := heap_setCell_same _ b 8 _ _ z g2
  exact g3
theorem Row12.set9 (h : Row12 w b v0 v1 v2 v3 v4 v5 v6 v7 v8 v9 v10 v11) (x y z : Value) : Row12 (((w.setCell ⟨b,9,none⟩ x).setCell ⟨b,10,none⟩ y).setCell ⟨b,11,none⟩ z) b v0 v1 v2 v3 v4 v5 v6 v7 v8 x y z := by
  have g1 := heap_setCell_same w b 9 _ _ x h
  have g2 := heap_setCell_same _ b 10 _ _ y g1
  have g3 := heap_setCell_same _ b 11 _ _ z g2
  exact g3
theorem Row12.other {a : Addr} (h : Row12 w b v0 v1 v2 v3 v4 v5 v6 v7 v8 v9 v10 v11) (ha : b ≠ a.block) (v : Value) : Row12 (w.setCell a v) b v0 v1 v2 v3 v4 v5 v6 v7 v8 v9 v10 v11 := (heap_setCell_other w a b v ha).trans h
end
theorem Row4.other {w : World} {c : Nat} {x y z u : Int} {a : Addr} (h : Row4 w c x y z u) (ha : c ≠ a.block) (v : Value) : Row4 (w.setCell a v) c x y z u := (heap_setCell_other w a c v ha).trans h
theorem Row4.drew {w : World} {c : Nat} {x y z u : Int} (h : Row4 w c x y z u) : Row4 w.drew c x y z u := h
theorem Row4.only {w w' : World} {c : Nat} {x y z u : Int} {p : Nat → Prop} (h : Row4 w c x y z u) (ho : Only w w' p) (hp : ¬ p c) : Row4 w' c x y z u := (ho.2.2.2.2 c h.lt hp).trans h
theorem Only.trans' {a b c : World} {p r : Nat → Prop} (h : Only a b p) (g : Only b c r) (hr : ∀ k,r k → p k) : Only a c p :=
  h.trans ⟨g.1,g.2.1,g.2.2.1,g.2.2.2.1,fun k hk hp => g.2.2.2.2 k hk (fun h' => hp (hr k h'))⟩
theorem IsInt.sets {w : World} {v : Value} {n : Int} {c i : Nat} {p : Option Addr} {m q : Nat} (h : IsInt w v n) (hc : w.cell? ⟨c,i,none⟩ = some (.slice p m q)) (i0 i1 i2 : Nat) (x y z : Value) : IsInt (((w.setCell ⟨c,i0,none⟩ x).setCell ⟨c,i1,none⟩ y).setCell ⟨c,i2,none⟩ z) v n := by
  obtain ⟨x',p',l,c',hv,hn⟩ := h
  exact ⟨x',p',l,c',hv,hn.sets hc i0 i1 i2 x y z⟩
end Go.Proofs.YtgccgacpifebbaaGreatDoor
namespace Go.Proofs.YtgccgacpifebbaaGreatDoor
open Go.RowKit
set_option linter.unusedVariables false
theorem IsInt.flag {w : World} {b : Bool} {x : Int} {p : Option Addr} {l c : Nat} {n : Int} (h : IsInt w (.agg #[.bool b,.int .u64 x,.slice p l c]) n) : b = decide (n < 0) := by
  obtain ⟨x',p',l',c',hv,_⟩ := h
  simp only [Value.agg.injEq,Array.mk.injEq,List.cons.injEq,Value.bool.injEq] at hv
  exact hv.1
theorem IsInt.nat {w : World} {b : Bool} {x : Int} {p : Option Addr} {l c : Nat} {n : Int} (h : IsInt w (.agg #[.bool b,.int .u64 x,.slice p l c]) n) : IsNat w (.agg #[.int .u64 x,.slice p l c]) (absI n) := by
  obtain ⟨x',p',l',c',hv,hn⟩ := h
  simp only [Value.agg.injEq,Array.mk.injEq,List.cons.injEq,Value.int.injEq,Value.slice.injEq] at hv
  obtain ⟨_,⟨_,rfl⟩,⟨rfl,rfl,rfl⟩,_⟩ := hv
  exact hn
end Go.Proofs.YtgccgacpifebbaaGreatDoor
