/- BezK -/
import Derived.Test.YtgccgacpifebbaaGreatDoorZb41
import Derived.Test.YtgccgacpifebbaaGreatDoorZb44
import Derived.Test.YtgccgacpifebbaaGreatDoorZb46
import Derived.Test.YtgccgacpifebbaaGreatDoorZb47
namespace Go.Proofs.YtgccgacpifebbaaGreatDoor
open Go.RowKit
set_option linter.unusedVariables false
/-- Euclid's row, and the numbers of the pair, whose words lie nowhere that a step writes. -/
structure BezS (A B M q p7 p8 X Y ga gb : Nat) (T0 T1 : Int) (s0 : Bool) (y0 : Int) (q0 : Option Addr) (m0 d0 : Nat) (s1 : Bool) (y1 : Int) (q1 : Option Addr) (m1 d1 : Nat) (W : World) : Prop where
  hE : ERow W p7 ga gb X Y
  i0 : IsInt W (.agg #[.bool s0,.int .u64 y0,.slice q0 m0 d0]) T0
  i1 : IsInt W (.agg #[.bool s1,.int .u64 y1,.slice q1 m1 d1]) T1
  o0 : ∀ a,q0 = some a → a.block ≠ ga ∧ a.block ≠ gb ∧ a.block ≠ p7 ∧ a.block ≠ p8 ∧ q + 5 ≤ a.block
  o1 : ∀ a,q1 = some a → a.block ≠ ga ∧ a.block ≠ gb ∧ a.block ≠ p7 ∧ a.block ≠ p8 ∧ q + 5 ≤ a.block
  inv : BezI A B X Y T0 T1
  gc : Nat.gcd X Y = Nat.gcd A B
  xM : (X : Int) < pw M
  yM : (Y : Int) < pw M
  la : q + 5 ≤ ga
  lb : q + 5 ≤ gb
  n8a : p8 ≠ ga
  n8b : p8 ≠ gb
/-- Behind a step: the turn, and Euclid's next row. -/
structure BezT (A B M q p7 p8 Y : Nat) (T0 T1 : Int) (s0 : Bool) (y0 : Int) (q0 : Option Addr) (m0 d0 : Nat) (s1 : Bool) (y1 : Int) (q1 : Option Addr) (m1 d1 : Nat) (v : Value) (e f g h : Int) (X1 Y1 ga gb : Nat) (W : World) : Prop where
  ht : IsTurn W v e f g h
  hE : ERow W p7 ga gb X1 Y1
  i0 : IsInt W (.agg #[.bool s0,.int .u64 y0,.slice q0 m0 d0]) T0
  i1 : IsInt W (.agg #[.bool s1,.int .u64 y1,.slice q1 m1 d1]) T1
  inv : BezI A B X1 Y1 (T0 * e + T1 * f) (T0 * g + T1 * h)
  gc : Nat.gcd X1 Y1 = Nat.gcd A B
  xM : (X1 : Int) < pw M
  yM : (Y1 : Int) < pw M
  lt : Y1 < Y
  la : q + 5 ≤ ga
  lb : q + 5 ≤ gb
  n8a : p8 ≠ ga
  n8b : p8 ≠ gb
  k0 : absI T0 < pw (M + 1)
  k1 : absI T1 < pw (M + 1)
  k2 : absI e < pw (M + 1)
  k3 : absI f < pw (M + 1)
  k4 : absI g < pw (M + 1)
  k5 : absI h < pw (M + 1)
theorem Row6.onlyN {w w' : World} {c : Nat} {t : TypeId} {v0 v1 v2 v3 v4 v5 : Value} {P : Nat → Prop} (h : Row6 w c t v0 v1 v2 v3 v4 v5) (o : Only w w' P) (hc : ¬ P c) : Row6 w' c t v0 v1 v2 v3 v4 v5 := (o.2.2.2.2 c h.lt hc).trans h
theorem absI_le_of {z n : Int} (h1 : z ≤ n) (h2 : -n ≤ z) : absI z ≤ n := by unfold absI; split <;> omega
theorem pw_upp (M : Nat) : pw M * 18446744073709551616 = pw (M + 1) := by rw [pw_add M 1]; rfl
section
variable {A B M q p7 p8 X Y ga gb : Nat} {T0 T1 : Int} {s0 : Bool} {y0 : Int} {q0 : Option Addr} {m0 d0 : Nat} {s1 : Bool} {y1 : Int} {q1 : Option Addr} {m1 d1 : Nat} {W W2 W6 : World}
theorem BezS.drew (S : BezS A B M q p7 p8 X Y ga gb T0 T1 s0 y0 q0 m0 d0 s1 y1 q1 m1 d1 W) : BezS A B M q p7 p8 X Y ga gb T0 T1 s0 y0 q0 m0 d0 s1 y1 q1 m1 d1 W.drew :=
  ⟨S.hE,S.i0,S.i1,S.o0,S.o1,S.inv,S.gc,S.xM,S.yM,S.la,S.lb,S.n8a,S.n8b⟩
theorem BezS.only (S : BezS A B M q p7 p8 X Y ga gb T0 T1 s0 y0 q0 m0 d0 s1 y1 q1 m1 d1 W) (o : Only W W2 (fun k => k = p8)) (n87 : p8 ≠ p7) : BezS A B M q p7 p8 X Y ga gb T0 T1 s0 y0 q0 m0 d0 s1 y1 q1 m1 d1 W2 :=
  ⟨S.hE.keep (o.2.2.2.2 _ S.hE.lt.1 (Ne.symm n87)) (o.2.2.2.2 _ S.hE.lt.2.1 (Ne.symm S.n8a)) (o.2.2.2.2 _ S.hE.lt.2.2 (Ne.symm S.n8b)),S.i0.only o fun a h => (S.o0 a h).2.2.2.1,S.i1.only o fun a h => (S.o1 a h).2.2.2.1,S.o0,S.o1,S.inv,S.gc,S.xM,S.yM,S.la,S.lb,S.n8a,S.n8b⟩
theorem BezS.turn {v0 v1 v2 v3 v4 v5 : Value} {t : TypeId} {rr : Ending} (S : BezS A B M q p7 p8 X Y ga gb T0 T1 s0 y0 q0 m0 d0 s1 y1 q1 m1 d1 W) (h8 : Row6 W p8 t v0 v1 v2 v3 v4 v5) (acc : Below (q + 5) W6 W) (l6 : q + 5 ≤ W6.heap.size) (l7 : q + 5 ≤ p7) (n87 : p8 ≠ p7) (hBM : (B : Int) < pw M) (hY : 0 < Y) (hS : Stepped W p7 ga gb X Y rr W2) :
    ∃ v e f g h X1 Y1 ga1 gb1,rr = .returned v ∧ BezT A B M q p7 p8 Y T0 T1 s0 y0 q0 m0 d0 s1 y1 q1 m1 d1 v e f g h X1 Y1 ga1 gb1 W2 ∧ Row6 W2 p8 t v0 v1 v2 v3 v4 v5 ∧ Below (q + 5) W6 W2 := by
  obtain ⟨v,e,f,g,h,ga1,gb1,rfl,ht,hE,j1,j2,j3,j4,j5,j6,j7,j8,hsh⟩ := hS
  obtain ⟨X1,hX1⟩ : ∃ X1 : Nat,e * X + f * Y = X1 := ⟨_,(Int.toNat_of_nonneg (by omega)).symm⟩
  obtain ⟨Y1,hY1⟩ : ∃ Y1 : Nat,g * X + h * Y = Y1 := ⟨_,(Int.toNat_of_nonneg j1).symm⟩
  have inv := S.inv.step hsh (by omega) (by omega) j1 j3
  have sm := S.inv.small (by omega) (by omega)
  rw [hX1,hY1] at hE inv j3 j5
  rw [hX1] at j4
  rw [hY1] at j1 j2
  have p8l := h8.lt
  have oP : ∀ a : Addr,(a.block ≠ ga ∧ a.block ≠ gb ∧ a.block ≠ p7 ∧ a.block ≠ p8 ∧ q + 5 ≤ a.block) → ¬ (a.block = p7 ∨ a.block = ga ∨ a.block = gb) := by
    rintro a ⟨h1,h2,h3,_⟩ (h | h | h)
    · exact h3 h
    · exact h1 h
    · exact h2 h
  have hup := pw_upp M
  have hp := pw_pos M
  have xM := S.xM
  have yM := S.yM
  obtain ⟨z,a,b,c,d,hz,ha,hb',hc,hd,a31,b31,c31,d31,ep,eq,er,et,-⟩ := hsh
  have hd2 : d < pw (M + 1) := by
    rcases d31 with h | h
    · omega
    · have : d ≤ X := le_of_mul h hd (by omega)
      omega
  have bd : ∀ n : Int,0 ≤ n → n < pw (M + 1) → absI (z * n) < pw (M + 1) ∧ absI (-(z * n)) < pw (M + 1) := by
    intro n h1 h2
    rcases hz with e | e <;> subst e <;> simp only [Int.one_mul,Int.neg_mul,Int.neg_neg] <;> unfold absI <;> constructor <;> split <;> omega
  have wsz := acc.size
  refine ⟨v,e,f,g,h,X1,Y1,ga1,gb1,rfl,⟨ht,hE,S.i0.only j8 fun a e => oP a (S.o0 a e),S.i1.only j8 fun a e => oP a (S.o1 a e),inv,?_,by omega,by omega,by omega,?_,?_,?_,?_,?_,?_,?_,?_,?_,?_⟩,h8.onlyN j8 ?_,?_⟩
  · have j5' : Nat.gcd X1 Y1 = Nat.gcd X Y := j5
    rw [j5',S.gc]
  · have := S.la; have := S.lb; rcases j6 with h | h <;> omega
  · have := S.lb; rcases j7 with h | h <;> omega
  · have := S.n8a; have := S.n8b; rcases j6 with h | h <;> omega
  · have := S.n8b; rcases j7 with h | h <;> omega
  · have := absI_le_of sm.1.1 sm.1.2; omega
  · have := absI_le_of sm.2.1 sm.2.2; omega
  · rw [ep]; exact (bd a ha (by omega)).1
  · rw [eq]; exact (bd b hb' (by omega)).2
  · rw [er]; exact (bd c hc (by omega)).2
  · rw [et]; exact (bd d hd hd2).1
  · rintro (h | h | h)
    · exact n87 h
    · exact S.n8a h
    · exact S.n8b h
  · have := S.la
    have := S.lb
    exact acc.trans (j8.toBelow (by omega) (by rintro k (h | h | h) <;> omega))
theorem BezT.by {v0 v1 v2 v3 v4 v5 : Value} {t : TypeId} {v : Value} {e f g h : Int} {X1 Y1 : Nat} (T : BezT A B M q p7 p8 Y T0 T1 s0 y0 q0 m0 d0 s1 y1 q1 m1 d1 v e f g h X1 Y1 ga gb W) (h8 : Row6 W p8 t v0 v1 v2 v3 v4 v5) (acc : Below (q + 5) W6 W) (l6 : q + 5 ≤ W6.heap.size) (hM : M ≤ 30) :
    Calls Tryz.prog 33 #[.agg #[.bool s0,.int .u64 y0,.slice q0 m0 d0,.bool s1,.int .u64 y1,.slice q1 m1 d1],v] W fun rr W2 => ∃ s2 y2 q2 m2 d2 s3 y3 q3 m3 d3,rr = .returned (.agg #[.bool s2,.int .u64 y2,.slice q2 m2 d2,.bool s3,.int .u64 y3,.slice q3 m3 d3]) ∧
      BezS A B M q p7 p8 X1 Y1 ga gb (T0 * e + T1 * f) (T0 * g + T1 * h) s2 y2 q2 m2 d2 s3 y3 q3 m3 d3 W2 ∧ Row6 W2 p8 t v0 v1 v2 v3 v4 v5 ∧ Below (q + 5) W6 W2 := by
  refine (by_intF (M + 1) (by omega) (by omega) T0 T1 e f g h s0 s1 y0 y1 q0 q1 m0 m1 d0 d1 v W T.i0 T.i1 T.ht T.k0 T.k1 T.k2 T.k3 T.k4 T.k5).mono ?_
  rintro rr W2 ⟨s2,y2,q2,m2,d2,s3,y3,q3,m3,d3,rfl,h0,h1,n0,n1,hb⟩
  have lE := T.hE.lt
  have l8 := h8.lt
  have wsz := acc.size
  exact ⟨s2,y2,q2,m2,d2,s3,y3,q3,m3,d3,rfl,⟨T.hE.below hb,h0,h1,fun a ha => by have := n0 a ha; omega,fun a ha => by have := n1 a ha; omega,T.inv,T.gc,T.xM,T.yM,T.la,T.lb,T.n8a,T.n8b⟩,(hb.block p8 l8).trans h8,acc.trans (hb.mono (by omega))⟩
end
/-- What Bezout answers, in its three variables. -/
structure BezF (w : World) (q : Nat) (b4 : Bool) (x4 : Int) (p4 : Option Addr) (l4 k4 : Nat) (b5 : Bool) (x5 : Int) (p5 : Option Addr) (l5 k5 : Nat) (b6 : Bool) (x6 : Int) (p6 : Option Addr) (l6 k6 : Nat) (z4 z5 z6 : Int) (W : World) : Prop where
  r4 : Row3 W (q + 1 + 1) (.bool b4) (.int .u64 x4) (.slice p4 l4 k4)
  r5 : Row3 W (q + 1 + 1 + 1) (.bool b5) (.int .u64 x5) (.slice p5 l5 k5)
  r6 : Row3 W (q + 1 + 1 + 1 + 1) (.bool b6) (.int .u64 x6) (.slice p6 l6 k6)
  i4 : IsInt W (.agg #[.bool b4,.int .u64 x4,.slice p4 l4 k4]) z4
  i5 : IsInt W (.agg #[.bool b5,.int .u64 x5,.slice p5 l5 k5]) z5
  i6 : IsInt W (.agg #[.bool b6,.int .u64 x6,.slice p6 l6 k6]) z6
  bw : Below w.heap.size w W
  hq : w.heap.size = q
section
variable {w : World} {q : Nat} {b4 : Bool} {x4 : Int} {p4 : Option Addr} {l4 k4 : Nat} {b5 : Bool} {x5 : Int} {p5 : Option Addr} {l5 k5 : Nat} {b6 : Bool} {x6 : Int} {p6 : Option Addr} {l6 k6 : Nat} {z4 z5 z6 : Int} {W : World}
theorem BezF.drew (h : BezF w q b4 x4 p4 l4 k4 b5 x5 p5 l5 k5 b6 x6 p6 l6 k6 z4 z5 z6 W) : BezF w q b4 x4 p4 l4 k4 b5 x5 p5 l5 k5 b6 x6 p6 l6 k6 z4 z5 z6 W.drew := ⟨h.r4,h.r5,h.r6,h.i4,h.i5,h.i6,h.bw.drew,h.hq⟩
theorem BezF.set4 (h : BezF w q b4 x4 p4 l4 k4 b5 x5 p5 l5 k5 b6 x6 p6 l6 k6 z4 z5 z6 W) : BezF w q b4 x4 p4 l4 k4 b5 x5 p5 l5 k5 b6 x6 p6 l6 k6 z4 z5 z6 (((W.setCell ⟨q + 1 + 1,0,none⟩ (.bool b4)).setCell ⟨q + 1 + 1,1,none⟩ (.int .u64 x4)).setCell ⟨q + 1 + 1,2,none⟩ (.slice p4 l4 k4)) := by
  have hq := h.hq
  have t := Row3.touch h.r4 (.bool b4) (.int .u64 x4) p4 l4 k4
  exact ⟨t.2,(((h.r5.other (a := ⟨q + 1 + 1,0,none⟩) (by show q + 1 + 1 + 1 ≠ q + 1 + 1; omega) (.bool b4)).other (a := ⟨q + 1 + 1,1,none⟩) (by show q + 1 + 1 + 1 ≠ q + 1 + 1; omega) (.int .u64 x4)).other (a := ⟨q + 1 + 1,2,none⟩) (by show q + 1 + 1 + 1 ≠ q + 1 + 1; omega) (.slice p4 l4 k4)),(((h.r6.other (a := ⟨q + 1 + 1,0,none⟩) (by show q + 1 + 1 + 1 + 1 ≠ q + 1 + 1; omega) (.bool b4)).other (a := ⟨q + 1 + 1,1,none⟩) (by show q + 1 + 1 + 1 + 1 ≠ q + 1 + 1; omega) (.int .u64 x4)).other (a := ⟨q + 1 + 1,2,none⟩) (by show q + 1 + 1 + 1 + 1 ≠ q + 1 + 1; omega) (.slice p4 l4 k4)),h.i4.touch t.1,h.i5.touch t.1,h.i6.touch t.1,⟨t.1.1.1.trans h.bw.os,t.1.1.2.1.trans h.bw.tape,t.1.1.2.2.1.trans h.bw.output,Nat.le_trans h.bw.size (Nat.le_of_eq t.1.1.2.2.2.1.symm),fun k hk => (t.1.1.2.2.2.2 k (by omega)).trans (h.bw.block k hk)⟩,hq⟩
theorem BezF.set5 (h : BezF w q b4 x4 p4 l4 k4 b5 x5 p5 l5 k5 b6 x6 p6 l6 k6 z4 z5 z6 W) : BezF w q b4 x4 p4 l4 k4 b5 x5 p5 l5 k5 b6 x6 p6 l6 k6 z4 z5 z6 (((W.setCell ⟨q + 1 + 1 + 1,0,none⟩ (.bool b5)).setCell ⟨q + 1 + 1 + 1,1,none⟩ (.int .u64 x5)).setCell ⟨q + 1 + 1 + 1,2,none⟩ (.slice p5 l5 k5)) := by
  have hq := h.hq
  have t := Row3.touch h.r5 (.bool b5) (.int .u64 x5) p5 l5 k5
  exact ⟨(((h.r4.other (a := ⟨q + 1 + 1 + 1,0,none⟩) (by show q + 1 + 1 ≠ q + 1 + 1 + 1; omega) (.bool b5)).other (a := ⟨q + 1 + 1 + 1,1,none⟩) (by show q + 1 + 1 ≠ q + 1 + 1 + 1; omega) (.int .u64 x5)).other (a := ⟨q + 1 + 1 + 1,2,none⟩) (by show q + 1 + 1 ≠ q + 1 + 1 + 1; omega) (.slice p5 l5 k5)),t.2,(((h.r6.other (a := ⟨q + 1 + 1 + 1,0,none⟩) (by show q + 1 + 1 + 1 + 1 ≠ q + 1 + 1 + 1; omega) (.bool b5)).other (a := ⟨q + 1 + 1 + 1,1,none⟩) (by show q + 1 + 1 + 1 + 1 ≠ q + 1 + 1 + 1; omega) (.int .u64 x5)).other (a := ⟨q + 1 + 1 + 1,2,none⟩) (by show q + 1 + 1 + 1 + 1 ≠ q + 1 + 1 + 1; omega) (.slice p5 l5 k5)),h.i4.touch t.1,h.i5.touch t.1,h.i6.touch t.1,⟨t.1.1.1.trans h.bw.os,t.1.1.2.1.trans h.bw.tape,t.1.1.2.2.1.trans h.bw.output,Nat.le_trans h.bw.size (Nat.le_of_eq t.1.1.2.2.2.1.symm),fun k hk => (t.1.1.2.2.2.2 k (by omega)).trans (h.bw.block k hk)⟩,hq⟩
theorem BezF.set6 (h : BezF w q b4 x4 p4 l4 k4 b5 x5 p5 l5 k5 b6 x6 p6 l6 k6 z4 z5 z6 W) : BezF w q b4 x4 p4 l4 k4 b5 x5 p5 l5 k5 b6 x6 p6 l6 k6 z4 z5 z6 (((W.setCell ⟨q + 1 + 1 + 1 + 1,0,none⟩ (.bool b6)).setCell ⟨q + 1 + 1 + 1 + 1,1,none⟩ (.int .u64 x6)).setCell ⟨q + 1 + 1 + 1 + 1,2,none⟩ (.slice p6 l6 k6)) := by
  have hq := h.hq
  have t := Row3.touch h.r6 (.bool b6) (.int .u64 x6) p6 l6 k6
  exact ⟨(((h.r4.other (a := ⟨q + 1 + 1 + 1 + 1,0,none⟩) (by show q + 1 + 1 ≠ q + 1 + 1 + 1 + 1; omega) (.bool b6)).other (a := ⟨q + 1 + 1 + 1 + 1,1,none⟩) (by show q + 1 + 1 ≠ q + 1 + 1 + 1 + 1; omega) (.int .u64 x6)).other (a := ⟨q + 1 + 1 + 1 + 1,2,none⟩) (by show q + 1 + 1 ≠ q + 1 + 1 + 1 + 1; omega) (.slice p6 l6 k6)),(((h.r5.other (a := ⟨q + 1 + 1 + 1 + 1,0,none⟩) (by show q + 1 + 1 + 1 ≠ q + 1 + 1 + 1 + 1; omega) (.bool b6)).other (a := ⟨q + 1 + 1 + 1 + 1,1,none⟩) (by show q + 1 + 1 + 1 ≠ q + 1 + 1 + 1 + 1; omega) (.int .u64 x6)).other (a := ⟨q + 1 + 1 + 1 + 1,2,none⟩) (by show q + 1 + 1 + 1 ≠ q + 1 + 1 + 1 + 1; omega) (.slice p6 l6 k6)),t.2,h.i4.touch t.1,h.i5.touch t.1,h.i6.touch t.1,⟨t.1.1.1.trans h.bw.os,t.1.1.2.1.trans h.bw.tape,t.1.1.2.2.1.trans h.bw.output,Nat.le_trans h.bw.size (Nat.le_of_eq t.1.1.2.2.2.1.symm),fun k hk => (t.1.1.2.2.2.2 k (by omega)).trans (h.bw.block k hk)⟩,hq⟩
end
end Go.Proofs.YtgccgacpifebbaaGreatDoor
