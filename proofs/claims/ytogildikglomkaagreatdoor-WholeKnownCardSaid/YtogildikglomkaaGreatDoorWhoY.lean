/- whole: Bezout of 6 and 4; chapter 2's example. (gen_bez.py, and by hand) -/
import Derived.Test.YtogildikglomkaaGreatDoorWhoX
import Derived.Test.YtogildikglomkaaGreatDoorWhoU
import Derived.Test.YtogildikglomkaaGreatDoorWhoH
import Derived.Test.YtogildikglomkaaGreatDoorKnown
import Derived.Deep.LoopGhost
namespace Go.Proofs.YtogildikglomkaaGreatDoor
open Go.RowKit
set_option linter.unusedVariables false

theorem IsInt.lit {w : World} {v : Value} {z : Int} (h : IsInt w v z) (hz : absI z < 18446744073709551616) : v = .agg #[.bool (decide (z < 0)),.int .u64 (absI z),.slice none 0 0] := by
  obtain ⟨x,p,l,c,rfl,hn⟩ := h
  have e := hn.one hz
  simp only [Value.agg.injEq,Array.mk.injEq,List.cons.injEq,Value.int.injEq,Value.slice.injEq] at e
  obtain ⟨⟨_,rfl⟩,⟨rfl,rfl,rfl⟩,_⟩ := e
  rfl
theorem lit_int (w : World) (b : Bool) (x z : Int) (hb : b = decide (z < 0)) (hx : x = absI z) (hz : absI z < 18446744073709551616) : IsInt w (.agg #[.bool b,.int .u64 x,.slice none 0 0]) z := by
  subst hb hx
  exact ⟨_,_,_,_,rfl,IsNat.word ⟨absI_nonneg z,hz⟩⟩
theorem IsPair.lit {w : World} {v : Value} {a b : Int} (h : IsPair w v a b) (ha : absI a < 18446744073709551616) (hb : absI b < 18446744073709551616) : v = .agg #[.bool (decide (a < 0)),.int .u64 (absI a),.slice none 0 0,.bool (decide (b < 0)),.int .u64 (absI b),.slice none 0 0] := by
  obtain ⟨x,p,l,c,y,q,m,d,rfl,hn,hm⟩ := h
  have e := hn.one ha
  have f := hm.one hb
  simp only [Value.agg.injEq,Array.mk.injEq,List.cons.injEq,Value.int.injEq,Value.slice.injEq] at e f
  obtain ⟨⟨_,rfl⟩,⟨rfl,rfl,rfl⟩,_⟩ := e
  obtain ⟨⟨_,rfl⟩,⟨rfl,rfl,rfl⟩,_⟩ := f
  rfl
theorem of_lit (n : Int) (b : Bool) (x : Int) (hb : b = decide (n < 0)) (hx : x = absI n) (hn : -9223372036854775808 ≤ n ∧ n ≤ 9223372036854775807) (w : World) : Calls Tryz.prog 7 #[.int .i64 n] w fun e w' => e = .returned (.agg #[.bool b,.int .u64 x,.slice none 0 0]) ∧ Below w.heap.size w w' := by
  refine (of_int n hn w).mono ?_
  rintro e w' ⟨v,rfl,hv,hB⟩
  rw [hv.lit (by unfold absI; split <;> omega),← hb,← hx]
  exact ⟨rfl,hB⟩
theorem div_lit (a b Q R : Int) (ba bb bq br : Bool) (xa xb xq xr : Int) (ha : ba = decide (a < 0) ∧ xa = absI a ∧ absI a < 18446744073709551616) (hb : bb = decide (b < 0) ∧ xb = absI b ∧ absI b < 18446744073709551616) (hb0 : b ≠ 0)
    (hq : qI a b = Q ∧ bq = decide (Q < 0) ∧ xq = absI Q ∧ absI Q < 18446744073709551616) (hr : rI a b = R ∧ br = decide (R < 0) ∧ xr = absI R ∧ absI R < 18446744073709551616) (w : World) :
    Calls Tryz.prog 8 #[.agg #[.bool ba,.int .u64 xa,.slice none 0 0],.agg #[.bool bb,.int .u64 xb,.slice none 0 0]] w fun e w' => e = .returned (.tuple #[.agg #[.bool bq,.int .u64 xq,.slice none 0 0],.agg #[.bool br,.int .u64 xr,.slice none 0 0],.bool true]) ∧ Below w.heap.size w w' := by
  refine (div_int 1 (by decide) _ _ a b w (lit_int w ba xa a ha.1 ha.2.1 ha.2.2) (lit_int w bb xb b hb.1 hb.2.1 hb.2.2) (by simpa [pw] using ha.2.2) (by simpa [pw] using hb.2.2) (by decide) hb0).mono ?_
  rintro e w' ⟨v1,v2,rfl,h1,h2,hB⟩
  rw [hq.1] at h1
  rw [hr.1] at h2
  rw [h1.lit hq.2.2.2,h2.lit hr.2.2.2,← hq.2.1,← hq.2.2.1,← hr.2.1,← hr.2.2.1]
  exact ⟨rfl,hB⟩
theorem mul_lit (a b Q : Int) (ba bb bq : Bool) (xa xb xq : Int) (ha : ba = decide (a < 0) ∧ xa = absI a ∧ absI a < 18446744073709551616) (hb : bb = decide (b < 0) ∧ xb = absI b ∧ absI b < 18446744073709551616)
    (hq : a * b = Q ∧ bq = decide (Q < 0) ∧ xq = absI Q ∧ absI Q < 18446744073709551616) (w : World) :
    Calls Tryz.prog 34 #[.agg #[.bool ba,.int .u64 xa,.slice none 0 0],.agg #[.bool bb,.int .u64 xb,.slice none 0 0]] w fun e w' => e = .returned (.agg #[.bool bq,.int .u64 xq,.slice none 0 0]) ∧ Below w.heap.size w w' := by
  refine (mul_int 1 (by decide) (by decide) _ _ a b w (lit_int w ba xa a ha.1 ha.2.1 ha.2.2) (lit_int w bb xb b hb.1 hb.2.1 hb.2.2) (by simpa [pw] using ha.2.2) (by simpa [pw] using hb.2.2)).mono ?_
  rintro e w' ⟨v1,rfl,h1,hB⟩
  rw [hq.1] at h1
  rw [h1.lit hq.2.2.2,← hq.2.1,← hq.2.2.1]
  exact ⟨rfl,hB⟩
theorem sub_lit (a b Q : Int) (ba bb bq : Bool) (xa xb xq : Int) (ha : ba = decide (a < 0) ∧ xa = absI a ∧ absI a < 18446744073709551616) (hb : bb = decide (b < 0) ∧ xb = absI b ∧ absI b < 18446744073709551616)
    (hq : a - b = Q ∧ bq = decide (Q < 0) ∧ xq = absI Q ∧ absI Q < 18446744073709551616) (w : World) :
    Calls Tryz.prog 51 #[.agg #[.bool ba,.int .u64 xa,.slice none 0 0],.agg #[.bool bb,.int .u64 xb,.slice none 0 0]] w fun e w' => e = .returned (.agg #[.bool bq,.int .u64 xq,.slice none 0 0]) ∧ Below w.heap.size w w' := by
  refine (sub_int 1 (by decide) (by decide) _ _ a b w (lit_int w ba xa a ha.1 ha.2.1 ha.2.2) (lit_int w bb xb b hb.1 hb.2.1 hb.2.2) (by simpa [pw] using ha.2.2) (by simpa [pw] using hb.2.2)).mono ?_
  rintro e w' ⟨v1,rfl,h1,hB⟩
  rw [hq.1] at h1
  rw [h1.lit hq.2.2.2,← hq.2.1,← hq.2.2.1]
  exact ⟨rfl,hB⟩
theorem sign_lit (a : Int) (ba : Bool) (xa : Int) (ha : ba = decide (a < 0) ∧ xa = absI a ∧ absI a < 18446744073709551616) (s : Int) (hs : sgnI a = s) (w : World) : Calls Tryz.prog 16 #[.agg #[.bool ba,.int .u64 xa,.slice none 0 0]] w fun e w' => e = .returned (.int .i64 s) ∧ Below w.heap.size w w' := by
  rw [← hs]
  exact sign_int _ a w (lit_int w ba xa a ha.1 ha.2.1 ha.2.2)
theorem by_lit (P0 P1 A0 A1 B0 B1 : Int) (b0 b1 c0 c1 : Bool) (x0 x1 y0 y1 : Int) (u : Value) (h0 : b0 = decide (P0 < 0) ∧ x0 = absI P0 ∧ absI P0 < 18446744073709551616) (h1 : b1 = decide (P1 < 0) ∧ x1 = absI P1 ∧ absI P1 < 18446744073709551616)
    (ka0 : absI A0 < 18446744073709551616) (ka1 : absI A1 < 18446744073709551616) (kb0 : absI B0 < 18446744073709551616) (kb1 : absI B1 < 18446744073709551616) (Q0 Q1 : Int)
    (hq0 : P0 * A0 + P1 * A1 = Q0 ∧ c0 = decide (Q0 < 0) ∧ y0 = absI Q0 ∧ absI Q0 < 18446744073709551616) (hq1 : P0 * B0 + P1 * B1 = Q1 ∧ c1 = decide (Q1 < 0) ∧ y1 = absI Q1 ∧ absI Q1 < 18446744073709551616) (w : World) (hu : IsTurn w u A0 A1 B0 B1) :
    Calls Tryz.prog 48 #[.agg #[.bool b0,.int .u64 x0,.slice none 0 0,.bool b1,.int .u64 x1,.slice none 0 0],u] w fun e w' => e = .returned (.agg #[.bool c0,.int .u64 y0,.slice none 0 0,.bool c1,.int .u64 y1,.slice none 0 0]) ∧ Below w.heap.size w w' := by
  obtain ⟨hb0,hx0,hP0⟩ := h0
  obtain ⟨hb1,hx1,hP1⟩ := h1
  have e1 : pw 1 = 18446744073709551616 := by decide
  have hv : IsPair w (.agg #[.bool b0,.int .u64 x0,.slice none 0 0,.bool b1,.int .u64 x1,.slice none 0 0]) P0 P1 := by
    rw [hb0,hx0,hb1,hx1]
    exact ⟨_,_,_,_,_,_,_,_,rfl,IsNat.word ⟨absI_nonneg _,hP0⟩,IsNat.word ⟨absI_nonneg _,hP1⟩⟩
  refine (by_int 1 (by decide) (by decide) P0 P1 A0 A1 B0 B1 _ u w hv hu (by rw [e1]; exact hP0) (by rw [e1]; exact hP1) (by rw [e1]; exact ka0) (by rw [e1]; exact ka1) (by rw [e1]; exact kb0) (by rw [e1]; exact kb1)).mono ?_
  rintro e w' ⟨v,rfl,h,hB⟩
  rw [hq0.1,hq1.1] at h
  rw [h.lit hq0.2.2.2 hq1.2.2.2,← hq0.2.1,← hq0.2.2.1,← hq1.2.1,← hq1.2.2.1]
  exact ⟨rfl,hB⟩
theorem Row3.only {w w' : World} {c : Nat} {x y z : Value} {p : Nat → Prop} (h : Row3 w c x y z) (ho : Only w w' p) (hp : ¬ p c) : Row3 w' c x y z := (ho.2.2.2.2 c h.lt hp).trans h
theorem Row6.only {w w' : World} {b t : Nat} {v0 v1 v2 v3 v4 v5 : Value} {p : Nat → Prop} (h : Row6 w b t v0 v1 v2 v3 v4 v5) (ho : Only w w' p) (hp : ¬ p b) : Row6 w' b t v0 v1 v2 v3 v4 v5 := (ho.2.2.2.2 b h.lt hp).trans h
theorem EBox.drew {w : World} {e : Nat} {u v : Value} (h : EBox w e u v) : EBox w.drew e u v := h
theorem EBox.alloc {w : World} {e : Nat} {u v : Value} (h : EBox w e u v) (o : Obj) : EBox (w.alloc o) e u v := (heap_alloc_old w o h.lt).trans h
theorem Arr.only {w w' : World} {b : Nat} {t : TypeId} {k : IntKind} {l : List Int} {p : Nat → Prop} (h : Arr w b t k l) (ho : Only w w' p) (hp : ¬ p b) : Arr w' b t k l := (ho.2.2.2.2 b h.lt hp).trans h
/-- Bezout's five variables,and what lay there ahead of it. -/
structure BzF (w : World) (q : Nat) (W : World) : Prop where
  bw : Below w.heap.size w W
  hq : w.heap.size = q
  ra : Row3 W q (.bool false) (.int .u64 6) (.slice none 0 0)
  rb : Row3 W (q + 1) (.bool false) (.int .u64 4) (.slice none 0 0)
  r4 : Row3 W (q + 1 + 1) (.bool false) (.int .u64 0) (.slice none 0 0)
  r5 : Row3 W (q + 1 + 1 + 1) (.bool false) (.int .u64 0) (.slice none 0 0)
  r6 : Row3 W (q + 1 + 1 + 1 + 1) (.bool false) (.int .u64 0) (.slice none 0 0)
theorem BzF.below {w W W' : World} {q : Nat} (h : BzF w q W) (hb : Below W.heap.size W W') : BzF w q W' :=
  ⟨h.bw.trans (hb.mono h.bw.size),h.hq,h.ra.below hb h.ra.lt,h.rb.below hb h.rb.lt,h.r4.below hb h.r4.lt,h.r5.below hb h.r5.lt,h.r6.below hb h.r6.lt⟩
theorem BzF.only {w W W' : World} {q : Nat} {p : Nat → Prop} (h : BzF w q W) (ho : Only W W' p) (hp : ∀ k,p k → q + 5 ≤ k) : BzF w q W' := by
  have n : ∀ k,k < q + 5 → ¬ p k := fun k hk hpk => by have := hp k hpk; omega
  refine ⟨h.bw.trans (ho.toBelow h.bw.size fun k hk => ?_),h.hq,h.ra.only ho (n _ (by omega)),h.rb.only ho (n _ (by omega)),h.r4.only ho (n _ (by omega)),h.r5.only ho (n _ (by omega)),h.r6.only ho (n _ (by omega))⟩
  have h1 := hp k hk
  have h2 := h.hq
  omega
theorem BzF.drew {w W : World} {q : Nat} (h : BzF w q W) : BzF w q W.drew := ⟨h.bw.drew,h.hq,h.ra,h.rb,h.r4,h.r5,h.r6⟩
theorem BzF.set {w W : World} {q : Nat} (h : BzF w q W) {c : Nat} (hc : q + 5 ≤ c) (i : Nat) (v : Value) : BzF w q (W.setCell ⟨c,i,none⟩ v) := by
  refine ⟨h.bw.setCell (p := ⟨c,i,none⟩) (by have := h.hq; show w.heap.size ≤ c; omega) v,h.hq,?_,?_,?_,?_,?_⟩
  · exact (heap_setCell_other W ⟨c,i,none⟩ _ v (by show q ≠ c; omega)).trans h.ra
  · exact (heap_setCell_other W ⟨c,i,none⟩ _ v (by show q + 1 ≠ c; omega)).trans h.rb
  · exact (heap_setCell_other W ⟨c,i,none⟩ _ v (by show q + 1 + 1 ≠ c; omega)).trans h.r4
  · exact (heap_setCell_other W ⟨c,i,none⟩ _ v (by show q + 1 + 1 + 1 ≠ c; omega)).trans h.r5
  · exact (heap_setCell_other W ⟨c,i,none⟩ _ v (by show q + 1 + 1 + 1 + 1 ≠ c; omega)).trans h.r6
/-- The same,whatever its answers are so far. -/
structure BzG (w : World) (q : Nat) (b4 : Bool) (x4 : Int) (b5 : Bool) (x5 : Int) (b6 : Bool) (x6 : Int) (W : World) : Prop where
  bw : Below w.heap.size w W
  hq : w.heap.size = q
  ra : Row3 W (q) (.bool false) (.int .u64 6) (.slice none 0 0)
  rb : Row3 W (q + 1) (.bool false) (.int .u64 4) (.slice none 0 0)
  r4 : Row3 W (q + 1 + 1) (.bool b4) (.int .u64 x4) (.slice none 0 0)
  r5 : Row3 W (q + 1 + 1 + 1) (.bool b5) (.int .u64 x5) (.slice none 0 0)
  r6 : Row3 W (q + 1 + 1 + 1 + 1) (.bool b6) (.int .u64 x6) (.slice none 0 0)
theorem BzF.g {w W : World} {q : Nat} (h : BzF w q W) : BzG w q false 0 false 0 false 0 W := ⟨h.bw,h.hq,h.ra,h.rb,h.r4,h.r5,h.r6⟩
section
variable {w W W' : World} {q : Nat} {b4 b5 b6 : Bool} {x4 x5 x6 : Int}
theorem BzG.below (h : BzG w q b4 x4 b5 x5 b6 x6 W) (hb : Below W.heap.size W W') : BzG w q b4 x4 b5 x5 b6 x6 W' :=
  ⟨h.bw.trans (hb.mono h.bw.size),h.hq,h.ra.below hb h.ra.lt,h.rb.below hb h.rb.lt,h.r4.below hb h.r4.lt,h.r5.below hb h.r5.lt,h.r6.below hb h.r6.lt⟩
theorem BzG.drew (h : BzG w q b4 x4 b5 x5 b6 x6 W) : BzG w q b4 x4 b5 x5 b6 x6 W.drew := ⟨h.bw.drew,h.hq,h.ra,h.rb,h.r4,h.r5,h.r6⟩
theorem BzG.s4 (h : BzG w q b4 x4 b5 x5 b6 x6 W) (b : Bool) (x : Int) : BzG w q b x b5 x5 b6 x6 (((W.setCell ⟨q + 1 + 1,0,none⟩ (.bool b)).setCell ⟨q + 1 + 1,1,none⟩ (.int .u64 x)).setCell ⟨q + 1 + 1,2,none⟩ (.slice none 0 0)) := by
  have hq := h.hq
  have hc : w.heap.size ≤ q + 1 + 1 := by omega
  exact ⟨(((h.bw.setCell (p := ⟨q + 1 + 1,0,none⟩) hc (.bool b)).setCell (p := ⟨q + 1 + 1,1,none⟩) hc (.int .u64 x)).setCell (p := ⟨q + 1 + 1,2,none⟩) hc (.slice none 0 0)),h.hq,(((h.ra.other (a := ⟨q + 1 + 1,0,none⟩) (by show q ≠ q + 1 + 1; omega) _).other (a := ⟨q + 1 + 1,1,none⟩) (by show q ≠ q + 1 + 1; omega) _).other (a := ⟨q + 1 + 1,2,none⟩) (by show q ≠ q + 1 + 1; omega) _),(((h.rb.other (a := ⟨q + 1 + 1,0,none⟩) (by show q + 1 ≠ q + 1 + 1; omega) _).other (a := ⟨q + 1 + 1,1,none⟩) (by show q + 1 ≠ q + 1 + 1; omega) _).other (a := ⟨q + 1 + 1,2,none⟩) (by show q + 1 ≠ q + 1 + 1; omega) _),h.r4.set3 _ _ _,(((h.r5.other (a := ⟨q + 1 + 1,0,none⟩) (by show q + 1 + 1 + 1 ≠ q + 1 + 1; omega) _).other (a := ⟨q + 1 + 1,1,none⟩) (by show q + 1 + 1 + 1 ≠ q + 1 + 1; omega) _).other (a := ⟨q + 1 + 1,2,none⟩) (by show q + 1 + 1 + 1 ≠ q + 1 + 1; omega) _),(((h.r6.other (a := ⟨q + 1 + 1,0,none⟩) (by show q + 1 + 1 + 1 + 1 ≠ q + 1 + 1; omega) _).other (a := ⟨q + 1 + 1,1,none⟩) (by show q + 1 + 1 + 1 + 1 ≠ q + 1 + 1; omega) _).other (a := ⟨q + 1 + 1,2,none⟩) (by show q + 1 + 1 + 1 + 1 ≠ q + 1 + 1; omega) _)⟩
theorem BzG.s5 (h : BzG w q b4 x4 b5 x5 b6 x6 W) (b : Bool) (x : Int) : BzG w q b4 x4 b x b6 x6 (((W.setCell ⟨q + 1 + 1 + 1,0,none⟩ (.bool b)).setCell ⟨q + 1 + 1 + 1,1,none⟩ (.int .u64 x)).setCell ⟨q + 1 + 1 + 1,2,none⟩ (.slice none 0 0)) := by
  have hq := h.hq
  have hc : w.heap.size ≤ q + 1 + 1 + 1 := by omega
  exact ⟨(((h.bw.setCell (p := ⟨q + 1 + 1 + 1,0,none⟩) hc (.bool b)).setCell (p := ⟨q + 1 + 1 + 1,1,none⟩) hc (.int .u64 x)).setCell (p := ⟨q + 1 + 1 + 1,2,none⟩) hc (.slice none 0 0)),h.hq,(((h.ra.other (a := ⟨q + 1 + 1 + 1,0,none⟩) (by show q ≠ q + 1 + 1 + 1; omega) _).other (a := ⟨q + 1 + 1 + 1,1,none⟩) (by show q ≠ q + 1 + 1 + 1; omega) _).other (a := ⟨q + 1 + 1 + 1,2,none⟩) (by show q ≠ q + 1 + 1 + 1; omega) _),(((h.rb.other (a := ⟨q + 1 + 1 + 1,0,none⟩) (by show q + 1 ≠ q + 1 + 1 + 1; omega) _).other (a := ⟨q + 1 + 1 + 1,1,none⟩) (by show q + 1 ≠ q + 1 + 1 + 1; omega) _).other (a := ⟨q + 1 + 1 + 1,2,none⟩) (by show q + 1 ≠ q + 1 + 1 + 1; omega) _),(((h.r4.other (a := ⟨q + 1 + 1 + 1,0,none⟩) (by show q + 1 + 1 ≠ q + 1 + 1 + 1; omega) _).other (a := ⟨q + 1 + 1 + 1,1,none⟩) (by show q + 1 + 1 ≠ q + 1 + 1 + 1; omega) _).other (a := ⟨q + 1 + 1 + 1,2,none⟩) (by show q + 1 + 1 ≠ q + 1 + 1 + 1; omega) _),h.r5.set3 _ _ _,(((h.r6.other (a := ⟨q + 1 + 1 + 1,0,none⟩) (by show q + 1 + 1 + 1 + 1 ≠ q + 1 + 1 + 1; omega) _).other (a := ⟨q + 1 + 1 + 1,1,none⟩) (by show q + 1 + 1 + 1 + 1 ≠ q + 1 + 1 + 1; omega) _).other (a := ⟨q + 1 + 1 + 1,2,none⟩) (by show q + 1 + 1 + 1 + 1 ≠ q + 1 + 1 + 1; omega) _)⟩
theorem BzG.s6 (h : BzG w q b4 x4 b5 x5 b6 x6 W) (b : Bool) (x : Int) : BzG w q b4 x4 b5 x5 b x (((W.setCell ⟨q + 1 + 1 + 1 + 1,0,none⟩ (.bool b)).setCell ⟨q + 1 + 1 + 1 + 1,1,none⟩ (.int .u64 x)).setCell ⟨q + 1 + 1 + 1 + 1,2,none⟩ (.slice none 0 0)) := by
  have hq := h.hq
  have hc : w.heap.size ≤ q + 1 + 1 + 1 + 1 := by omega
  exact ⟨(((h.bw.setCell (p := ⟨q + 1 + 1 + 1 + 1,0,none⟩) hc (.bool b)).setCell (p := ⟨q + 1 + 1 + 1 + 1,1,none⟩) hc (.int .u64 x)).setCell (p := ⟨q + 1 + 1 + 1 + 1,2,none⟩) hc (.slice none 0 0)),h.hq,(((h.ra.other (a := ⟨q + 1 + 1 + 1 + 1,0,none⟩) (by show q ≠ q + 1 + 1 + 1 + 1; omega) _).other (a := ⟨q + 1 + 1 + 1 + 1,1,none⟩) (by show q ≠ q + 1 + 1 + 1 + 1; omega) _).other (a := ⟨q + 1 + 1 + 1 + 1,2,none⟩) (by show q ≠ q + 1 + 1 + 1 + 1; omega) _),(((h.rb.other (a := ⟨q + 1 + 1 + 1 + 1,0,none⟩) (by show q + 1 ≠ q + 1 + 1 + 1 + 1; omega) _).other (a := ⟨q + 1 + 1 + 1 + 1,1,none⟩) (by show q + 1 ≠ q + 1 + 1 + 1 + 1; omega) _).other (a := ⟨q + 1 + 1 + 1 + 1,2,none⟩) (by show q + 1 ≠ q + 1 + 1 + 1 + 1; omega) _),(((h.r4.other (a := ⟨q + 1 + 1 + 1 + 1,0,none⟩) (by show q + 1 + 1 ≠ q + 1 + 1 + 1 + 1; omega) _).other (a := ⟨q + 1 + 1 + 1 + 1,1,none⟩) (by show q + 1 + 1 ≠ q + 1 + 1 + 1 + 1; omega) _).other (a := ⟨q + 1 + 1 + 1 + 1,2,none⟩) (by show q + 1 + 1 ≠ q + 1 + 1 + 1 + 1; omega) _),(((h.r5.other (a := ⟨q + 1 + 1 + 1 + 1,0,none⟩) (by show q + 1 + 1 + 1 ≠ q + 1 + 1 + 1 + 1; omega) _).other (a := ⟨q + 1 + 1 + 1 + 1,1,none⟩) (by show q + 1 + 1 + 1 ≠ q + 1 + 1 + 1 + 1; omega) _).other (a := ⟨q + 1 + 1 + 1 + 1,2,none⟩) (by show q + 1 + 1 + 1 ≠ q + 1 + 1 + 1 + 1; omega) _),h.r6.set3 _ _ _⟩
end
theorem Row6.set6 {w : World} {b t : Nat} {v0 v1 v2 v3 v4 v5 : Value} (h : Row6 w b t v0 v1 v2 v3 v4 v5) (x0 x1 x2 x3 x4 x5 : Value) : Row6 ((((((w.setCell ⟨b,0,none⟩ x0).setCell ⟨b,1,none⟩ x1).setCell ⟨b,2,none⟩ x2).setCell ⟨b,3,none⟩ x3).setCell ⟨b,4,none⟩ x4).setCell ⟨b,5,none⟩ x5) b t x0 x1 x2 x3 x4 x5 :=
  (h.set0 x0 x1 x2).set3 x3 x4 x5
set_option maxRecDepth 100000 in
set_option maxHeartbeats 8000000 in
theorem bezout_64 (w : World) : Calls Tryz.prog 13 #[.agg #[.bool false,.int .u64 6,.slice none 0 0],.agg #[.bool false,.int .u64 4,.slice none 0 0]] w fun e w' => e = .returned (.tuple #[.agg #[.bool false,.int .u64 2,.slice none 0 0],.agg #[.bool false,.int .u64 1,.slice none 0 0],.agg #[.bool true,.int .u64 1,.slice none 0 0]]) ∧ Below w.heap.size w w' := by
  obtain ⟨q,hq⟩ : ∃ q,w.heap.size = q := ⟨_,rfl⟩
  have b0 : Below w.heap.size w (((((w.alloc (.cells #[.bool false,.int .u64 6,.slice none 0 0] 27)).alloc (.cells #[.bool false,.int .u64 4,.slice none 0 0] 27)).alloc (.cells #[.bool false,.int .u64 0,.slice none 0 0] 27)).alloc (.cells #[.bool false,.int .u64 0,.slice none 0 0] 27)).alloc (.cells #[.bool false,.int .u64 0,.slice none 0 0] 27)) := by go_grown
  have ra := ((((Row3.new w (.bool false) (.int .u64 6) (.slice none 0 0) w.heap.size rfl).alloc (.cells #[.bool false,.int .u64 4,.slice none 0 0] 27)).alloc (.cells #[.bool false,.int .u64 0,.slice none 0 0] 27)).alloc (.cells #[.bool false,.int .u64 0,.slice none 0 0] 27)).alloc (.cells #[.bool false,.int .u64 0,.slice none 0 0] 27)
  have rb := (((Row3.new (w.alloc (.cells #[.bool false,.int .u64 6,.slice none 0 0] 27)) (.bool false) (.int .u64 4) (.slice none 0 0) (w.heap.size + 1) (by simp)).alloc (.cells #[.bool false,.int .u64 0,.slice none 0 0] 27)).alloc (.cells #[.bool false,.int .u64 0,.slice none 0 0] 27)).alloc (.cells #[.bool false,.int .u64 0,.slice none 0 0] 27)
  have r4 := ((Row3.new ((w.alloc (.cells #[.bool false,.int .u64 6,.slice none 0 0] 27)).alloc (.cells #[.bool false,.int .u64 4,.slice none 0 0] 27)) (.bool false) (.int .u64 0) (.slice none 0 0) (w.heap.size + 1 + 1) (by simp)).alloc (.cells #[.bool false,.int .u64 0,.slice none 0 0] 27)).alloc (.cells #[.bool false,.int .u64 0,.slice none 0 0] 27)
  have r5 := (Row3.new (((w.alloc (.cells #[.bool false,.int .u64 6,.slice none 0 0] 27)).alloc (.cells #[.bool false,.int .u64 4,.slice none 0 0] 27)).alloc (.cells #[.bool false,.int .u64 0,.slice none 0 0] 27)) (.bool false) (.int .u64 0) (.slice none 0 0) (w.heap.size + 1 + 1 + 1) (by simp)).alloc (.cells #[.bool false,.int .u64 0,.slice none 0 0] 27)
  have r6 := Row3.new ((((w.alloc (.cells #[.bool false,.int .u64 6,.slice none 0 0] 27)).alloc (.cells #[.bool false,.int .u64 4,.slice none 0 0] 27)).alloc (.cells #[.bool false,.int .u64 0,.slice none 0 0] 27)).alloc (.cells #[.bool false,.int .u64 0,.slice none 0 0] 27)) (.bool false) (.int .u64 0) (.slice none 0 0) (w.heap.size + 1 + 1 + 1 + 1) (by simp)
  go_enter Tryz.func13,Tryz.ntmps13
  have b0_ := rb.cell0
  have b1_ := rb.cell1
  have b2_ := rb.cell2
  go_wp2_with fail
  clear b0_ b1_ b2_
  generalize (((((w.alloc (.cells #[.bool false,.int .u64 6,.slice none 0 0] 27)).alloc (.cells #[.bool false,.int .u64 4,.slice none 0 0] 27)).alloc (.cells #[.bool false,.int .u64 0,.slice none 0 0] 27)).alloc (.cells #[.bool false,.int .u64 0,.slice none 0 0] 27)).alloc (.cells #[.bool false,.int .u64 0,.slice none 0 0] 27)) = W0 at b0 ra rb r4 r5 r6 ⊢
  rw [hq] at ra rb r4 r5 r6
  refine (sign_lit 4 false 4 ⟨by decide,by decide,by decide⟩ 1 (by decide) W0).mono ?_
  rintro e W1 ⟨rfl,hb⟩
  have fr := (BzF.mk b0 hq ra rb r4 r5 r6).below hb
  have n1 := fr.r6.lt
  clear hb b0 ra rb r4 r5 r6 hq
  go_wp2_with fail
  generalize (Value.agg #[.bool false,.int .u64 6,.slice none 0 0]) = V0
  generalize (Value.agg #[.bool false,.int .u64 4,.slice none 0 0]) = V1
  generalize (Value.int .i64 1) = V13
  generalize (Value.bool false) = V14
  generalize undef = u
  refine wpIn_wide (n := 5) |>.1 ?_
  refine region_ways (by kernel_rfl) fun R hR => ?_
  have U := fun (n : Nat) (l : Array Bool) (a : Act) (w : World) (h : R n l a w) => cast (congrFun (congrFun (congrFun (congrFun hR.symm n) l) a) w) h
  have H0 : ∀ (W : World) (acc : Below W1.heap.size W1 W) (ga : Nat) (hga : Arr W ga 22 .u64 [6]) (lga : W1.heap.size ≤ ga) (gb : Nat) (hgb : Arr W gb 22 .u64 [4]) (lgb : ga < gb) (p7 : Nat) (h7 : EBox W p7 (.slice (some ⟨ga,0,none⟩) 1 1) (.slice (some ⟨gb,0,none⟩) 1 1)) (l7 : W1.heap.size ≤ p7) (n7a : p7 ≠ ga) (n7b : p7 ≠ gb),R 0 #[Ix,Ix,Ix,Ix,Ix,Ix,Ix,Ix,Ix] { tmps := #[V0,V1,ρ q,ρ (q + 1),ρ (q + 1 + 1),ρ (q + 1 + 1 + 1),ρ (q + 1 + 1 + 1 + 1),ρ p7,u,u,u,u,V1,V13,V14,u,u,u,u,u,u,u,.pointer (some ⟨q,1,none⟩),ν 6,ς ga 1 1,.pointer (some ⟨q + 1,1,none⟩),ν 4,ς gb 1 1,.agg #[ς ga 1 1,ς gb 1 1],u,u,u,u,u,u,u,u,u,u,u,u,u,u,u,u,u,u,u,u,u,u,u,u,u,u,u,u,u,u,u,u,u,u,u,u,u,u,u,u,u,u,u,u,u,u,u,u,u,u],defers := [] } W := by
    intro W acc ga hga lga gb hgb lgb p7 h7 l7 n7a n7b
    rw [← hR]
    dsimp only [ρ,ς,ν]
    refine wpAnyIn_done (by kernel_rfl) ?_ _
    replace fr := fr.below acc
    replace l7 : q + 5 ≤ p7 := by omega
    replace lga : q + 5 ≤ ga := by omega
    have lgb2 : q + 5 ≤ gb := by omega
    clear acc
    go_wp2_with fail
    refine (of_lit 1 false 1 (by decide) (by decide) ⟨by decide,by decide⟩ W).mono ?_
    rintro e W2 ⟨rfl,hb⟩
    replace fr := fr.below hb
    replace hga := hga.below hb hga.lt
    replace hgb := hgb.below hb hgb.lt
    replace h7 := h7.below hb h7.lt
    clear hb
    go_wp2_with fail
    refine (of_lit 0 false 0 (by decide) (by decide) ⟨by decide,by decide⟩ W2).mono ?_
    rintro e W3 ⟨rfl,hb⟩
    replace fr := fr.below hb
    replace hga := hga.below hb hga.lt
    replace hgb := hgb.below hb hgb.lt
    replace h7 := h7.below hb h7.lt
    clear hb
    have hb : Below W3.heap.size W3 (W3.alloc (.cells #[.bool false,.int .u64 1,.slice none 0 0,.bool false,.int .u64 0,.slice none 0 0] 88)) := by go_grown
    have h8 : Row6 (W3.alloc (.cells #[.bool false,.int .u64 1,.slice none 0 0,.bool false,.int .u64 0,.slice none 0 0] 88)) W3.heap.size 88 (.bool false) (.int .u64 1) (.slice none 0 0) (.bool false) (.int .u64 0) (.slice none 0 0) := heap_new W3 _ _ rfl
    have n8a := hga.lt
    have n8b := hgb.lt
    have n87 := h7.lt
    have l8 := fr.r6.lt
    replace fr := fr.below hb
    replace hga := hga.below hb n8a
    replace hgb := hgb.below hb n8b
    replace h7 := h7.below hb n87
    clear hb
    go_wp2_with fail
    generalize (W3.alloc (.cells #[.bool false,.int .u64 1,.slice none 0 0,.bool false,.int .u64 0,.slice none 0 0] 88)) = W4 at fr hga hgb h7 h8 ⊢
    generalize W3.heap.size = p8 at h8 n8a n8b n87 l8 ⊢
    generalize (Value.agg #[.bool false,.int .u64 1,.slice none 0 0]) = V29
    generalize (Value.agg #[.bool false,.int .u64 0,.slice none 0 0]) = V30
    generalize (Value.agg #[.bool false,.int .u64 1,.slice none 0 0,.bool false,.int .u64 0,.slice none 0 0]) = V31
    generalize (Value.agg #[.slice (some ⟨ga,0,none⟩) 1 1,.slice (some ⟨gb,0,none⟩) 1 1]) = V28
    generalize (Value.agg #[.int .u64 6,.slice none 0 0]) = V23
    generalize (Value.agg #[.int .u64 4,.slice none 0 0]) = V26
    replace l8 : q + 5 ≤ p8 := by omega
    go_loopg [] 2 (fun g wr => BzF w q wr ∧ ((g = 2 ∧ EBox wr p7 (.slice (some ⟨ga,0,none⟩) 1 1) (.slice (some ⟨gb,0,none⟩) 1 1) ∧ Arr wr ga 22 .u64 [6] ∧ Arr wr gb 22 .u64 [4] ∧ Row6 wr p8 88 (.bool false) (.int .u64 1) (.slice none 0 0) (.bool false) (.int .u64 0) (.slice none 0 0)) ∨ (g = 1 ∧ EBox wr p7 (.slice (some ⟨ga,0,none⟩) 1 1) (.slice (some ⟨gb,0,none⟩) 1 1) ∧ Arr wr ga 22 .u64 [4] ∧ Arr wr gb 22 .u64 [2] ∧ Row6 wr p8 88 (.bool false) (.int .u64 0) (.slice none 0 0) (.bool false) (.int .u64 1) (.slice none 0 0)) ∨ (∃ g2,EBox wr p7 (.slice (some ⟨gb,0,none⟩) 1 1) (.slice (some ⟨g2,0,none⟩) 0 0) ∧ Arr wr gb 22 .u64 [2] ∧ Row6 wr p8 88 (.bool false) (.int .u64 1) (.slice none 0 0) (.bool true) (.int .u64 2) (.slice none 0 0))))
    case atStart => exact ⟨fr,.inl ⟨rfl,h7,hga,hgb,h8⟩⟩
    case round =>
      clear fr h7 hga hgb h8
      obtain ⟨fr,hrel⟩ := hrel
      rcases hrel with ⟨rfl,h7,hga,hgb,h8⟩ | ⟨rfl,h7,hga,hgb,h8⟩ | ⟨g2,h7,hgb,h8⟩
      · have e1 := h7.cell1
        go_wp2_with fail
        clear e1
        have hp1 : ∀ k,(k = p7 ∨ k = ga ∨ k = gb) → q + 5 ≤ k := by rintro k (rfl | rfl | rfl) <;> assumption
        have n8p : ¬ (p8 = p7 ∨ p8 = ga ∨ p8 = gb) := by rintro (h | h | h) <;> omega
        have byL := fun W v (ht : IsTurn W v 0 1 1 (-1)) => by_lit 1 0 0 1 1 (-1) false false false false 1 0 0 1 v ⟨by decide,by decide,by decide⟩ ⟨by decide,by decide,by decide⟩ (by decide) (by decide) (by decide) (by decide) 0 1 ⟨by decide,by decide,by decide,by decide⟩ ⟨by decide,by decide,by decide,by decide⟩ W ht
        refine wpIn_wide (n := 5) |>.1 ?_
        refine region_ways (by kernel_rfl) fun R hR => ?_
        have U := fun (n : Nat) (l : Array Bool) (a : Act) (w : World) (h : R n l a w) => cast (congrFun (congrFun (congrFun (congrFun hR.symm n) l) a) w) h
        have H0 : ∀ (W : World) (fr : BzF w q W) (h7 : EBox W p7 (.slice (some ⟨ga,0,none⟩) 1 1) (.slice (some ⟨gb,0,none⟩) 1 1)) (hga : Arr W ga 22 .u64 [4]) (hgb : Arr W gb 22 .u64 [2]) (v : Value) (h8 : Row6 W p8 88 (.bool false) (.int .u64 0) (.slice none 0 0) (.bool false) (.int .u64 1) (.slice none 0 0)),R 0 #[Ix,Ix,Ix,Ix] { tmps := #[V0,V1,ρ q,ρ (q + 1),ρ (q + 1 + 1),ρ (q + 1 + 1 + 1),ρ (q + 1 + 1 + 1 + 1),ρ p7,ρ p8,u,u,u,V1,V13,V14,u,u,u,u,u,u,u,.pointer (some ⟨q,1,none⟩),V23,ς ga 1 1,.pointer (some ⟨q + 1,1,none⟩),V26,ς gb 1 1,V28,V29,V30,V31,.pointer (some ⟨p7,1,none⟩),ς gb 1 1,.int .i64 1,.bool true,.agg #[.bool false,.int .u64 1,.slice none 0 0,.bool false,.int .u64 0,.slice none 0 0],v,.agg #[.bool false,.int .u64 0,.slice none 0 0,.bool false,.int .u64 1,.slice none 0 0],u,u,u,u,u,u,u,u,u,u,u,u,u,u,u,u,u,u,u,u,u,u,u,u,u,u,u,u,u,u,u,u,u,u,u,u,u,u,u,u],defers := [] } W := by
          intro W fr h7 hga hgb v h8
          rw [← hR]
          dsimp only [ρ,ς]
          refine wpAnyIn_done (by kernel_rfl) ?_ _
          go_wp2_with fail
          go_roundg 1
          case measure => omega
          case rel => exact ⟨fr,.inr (.inl ⟨rfl,h7,hga,hgb,h8⟩)⟩
        have H1 : ∀ (W : World) (fr : BzF w q W) (h7 : EBox W p7 (.slice (some ⟨ga,0,none⟩) 1 1) (.slice (some ⟨gb,0,none⟩) 1 1)) (hga : Arr W ga 22 .u64 [4]) (hgb : Arr W gb 22 .u64 [2]) (v : Value) (h8 : Row6 W p8 88 (.bool false) (.int .u64 1) (.slice none 0 0) (.bool false) (.int .u64 0) (.slice none 0 0)),R 1 #[Ix,Ix,Ix,Ox] { tmps := #[V0,V1,ρ q,ρ (q + 1),ρ (q + 1 + 1),ρ (q + 1 + 1 + 1),ρ (q + 1 + 1 + 1 + 1),ρ p7,ρ p8,u,u,u,V1,V13,V14,u,u,u,u,u,u,u,.pointer (some ⟨q,1,none⟩),V23,ς ga 1 1,.pointer (some ⟨q + 1,1,none⟩),V26,ς gb 1 1,V28,V29,V30,V31,.pointer (some ⟨p7,1,none⟩),ς gb 1 1,.int .i64 1,.bool true,.agg #[.bool false,.int .u64 1,.slice none 0 0,.bool false,.int .u64 0,.slice none 0 0],v,.agg #[.bool false,.int .u64 0,.slice none 0 0,.bool false,.int .u64 1,.slice none 0 0],u,u,u,u,u,u,u,u,u,u,u,u,u,u,u,u,u,u,u,u,u,u,u,u,u,u,u,u,u,u,u,u,u,u,u,u,u,u,u,u],defers := [] } W := by
          intro W fr h7 hga hgb v h8
          rw [← hR]
          dsimp only [ρ,ς]
          have k0 := h8.cell0
          have k1 := h8.cell1
          have k2 := h8.cell2
          have k3 := h8.cell3
          have k4 := h8.cell4
          have k5 := h8.cell5
          have f0 := h8.free 0
          have f1 := h8.free 1
          have f2 := h8.free 2
          have f3 := h8.free 3
          have f4 := h8.free 4
          have f5 := h8.free 5
          refine wpAnyIn_ready (rs := [3]) (by kernel_rfl) (by simp) (AllReadyIn.cons rfl (fun K hK => ?_) (AllReadyIn.nil))
          · go_simp; exact hK _ _ (U _ _ _ _ (H0 ((((((W.setCell ⟨p8,0,none⟩ (.bool false)).setCell ⟨p8,1,none⟩ (.int .u64 0)).setCell ⟨p8,2,none⟩ (.slice none 0 0)).setCell ⟨p8,3,none⟩ (.bool false)).setCell ⟨p8,4,none⟩ (.int .u64 1)).setCell ⟨p8,5,none⟩ (.slice none 0 0)) ((((((fr.set l8 _ _).set l8 _ _).set l8 _ _).set l8 _ _).set l8 _ _).set l8 _ _) ((((((h7.other (Nat.ne_of_lt n87) _).other (Nat.ne_of_lt n87) _).other (Nat.ne_of_lt n87) _).other (Nat.ne_of_lt n87) _).other (Nat.ne_of_lt n87) _).other (Nat.ne_of_lt n87) _) ((((((hga.other (Nat.ne_of_lt n8a) _).other (Nat.ne_of_lt n8a) _).other (Nat.ne_of_lt n8a) _).other (Nat.ne_of_lt n8a) _).other (Nat.ne_of_lt n8a) _).other (Nat.ne_of_lt n8a) _) ((((((hgb.other (Nat.ne_of_lt n8b) _).other (Nat.ne_of_lt n8b) _).other (Nat.ne_of_lt n8b) _).other (Nat.ne_of_lt n8b) _).other (Nat.ne_of_lt n8b) _).other (Nat.ne_of_lt n8b) _) v (h8.set6 _ _ _ _ _ _)))
        have H2 : ∀ (W : World) (fr : BzF w q W) (h7 : EBox W p7 (.slice (some ⟨ga,0,none⟩) 1 1) (.slice (some ⟨gb,0,none⟩) 1 1)) (hga : Arr W ga 22 .u64 [4]) (hgb : Arr W gb 22 .u64 [2]) (v : Value) (ht : IsTurn W v 0 1 1 (-1)) (h8 : Row6 W p8 88 (.bool false) (.int .u64 1) (.slice none 0 0) (.bool false) (.int .u64 0) (.slice none 0 0)),R 2 #[Ix,Ix,Ox,Ox] { tmps := #[V0,V1,ρ q,ρ (q + 1),ρ (q + 1 + 1),ρ (q + 1 + 1 + 1),ρ (q + 1 + 1 + 1 + 1),ρ p7,ρ p8,u,u,u,V1,V13,V14,u,u,u,u,u,u,u,.pointer (some ⟨q,1,none⟩),V23,ς ga 1 1,.pointer (some ⟨q + 1,1,none⟩),V26,ς gb 1 1,V28,V29,V30,V31,.pointer (some ⟨p7,1,none⟩),ς gb 1 1,.int .i64 1,.bool true,.agg #[.bool false,.int .u64 1,.slice none 0 0,.bool false,.int .u64 0,.slice none 0 0],v,u38,u,u,u,u,u,u,u,u,u,u,u,u,u,u,u,u,u,u,u,u,u,u,u,u,u,u,u,u,u,u,u,u,u,u,u,u,u,u,u,u],defers := [] } W := by
          intro W fr h7 hga hgb v ht h8
          rw [← hR]
          dsimp only [ρ,ς]
          have k0 := h8.cell0
          have k1 := h8.cell1
          have k2 := h8.cell2
          have k3 := h8.cell3
          have k4 := h8.cell4
          have k5 := h8.cell5
          have f0 := h8.free 0
          have f1 := h8.free 1
          have f2 := h8.free 2
          have f3 := h8.free 3
          have f4 := h8.free 4
          have f5 := h8.free 5
          refine wpAnyIn_ready (rs := [2]) (by kernel_rfl) (by simp) (AllReadyIn.cons rfl (fun K hK => ?_) (AllReadyIn.nil))
          · go_simp
            gi_wp2_with (refine ⟨trivial,?_⟩; gi_at_call 48; refine (callsIn_wide.2 (byL W v ht)).mono ?_; rintro e W2 ⟨rfl,hb⟩)
            exact U _ _ _ _ (H1 W2 (fr.below hb) (h7.below hb h7.lt) (hga.below hb hga.lt) (hgb.below hb hgb.lt) v (h8.below hb h8.lt))
        have H3 : ∀ (W : World) (fr : BzF w q W) (h7 : EBox W p7 (.slice (some ⟨ga,0,none⟩) 1 1) (.slice (some ⟨gb,0,none⟩) 1 1)) (hga : Arr W ga 22 .u64 [6]) (hgb : Arr W gb 22 .u64 [4]) (h8 : Row6 W p8 88 (.bool false) (.int .u64 1) (.slice none 0 0) (.bool false) (.int .u64 0) (.slice none 0 0)),R 3 #[Ix,Ox,Ox,Ox] { tmps := #[V0,V1,ρ q,ρ (q + 1),ρ (q + 1 + 1),ρ (q + 1 + 1 + 1),ρ (q + 1 + 1 + 1 + 1),ρ p7,ρ p8,u,u,u,V1,V13,V14,u,u,u,u,u,u,u,.pointer (some ⟨q,1,none⟩),V23,ς ga 1 1,.pointer (some ⟨q + 1,1,none⟩),V26,ς gb 1 1,V28,V29,V30,V31,.pointer (some ⟨p7,1,none⟩),ς gb 1 1,.int .i64 1,.bool true,.agg #[.bool false,.int .u64 1,.slice none 0 0,.bool false,.int .u64 0,.slice none 0 0],u37,u38,u,u,u,u,u,u,u,u,u,u,u,u,u,u,u,u,u,u,u,u,u,u,u,u,u,u,u,u,u,u,u,u,u,u,u,u,u,u,u,u],defers := [] } W := by
          intro W fr h7 hga hgb h8
          rw [← hR]
          dsimp only [ρ,ς]
          have k0 := h8.cell0
          have k1 := h8.cell1
          have k2 := h8.cell2
          have k3 := h8.cell3
          have k4 := h8.cell4
          have k5 := h8.cell5
          have f0 := h8.free 0
          have f1 := h8.free 1
          have f2 := h8.free 2
          have f3 := h8.free 3
          have f4 := h8.free 4
          have f5 := h8.free 5
          refine wpAnyIn_ready (rs := [1]) (by kernel_rfl) (by simp) (AllReadyIn.cons rfl (fun K hK => ?_) (AllReadyIn.nil))
          · go_simp
            gi_wp2_with (refine ⟨trivial,?_⟩; gi_at_call 49; refine (callsIn_wide.2 (step_64 p7 ga gb 1 1 W (Nat.ne_of_lt lgb) n7a n7b (Nat.le_refl _) (Nat.le_refl _) h7 hga hgb)).mono ?_; rintro e W2 ⟨v,rfl,ht,h7',hga',hgb',ho⟩)
            exact U _ _ _ _ (H2 W2 (fr.only ho hp1) h7' hga' hgb' v ht (h8.only ho n8p))
        have H4 : ∀ (W : World) (fr : BzF w q W) (h7 : EBox W p7 (.slice (some ⟨ga,0,none⟩) 1 1) (.slice (some ⟨gb,0,none⟩) 1 1)) (hga : Arr W ga 22 .u64 [4]) (hgb : Arr W gb 22 .u64 [2]) (v : Value) (ht : IsTurn W v 0 1 1 (-1)) (h8 : Row6 W p8 88 (.bool false) (.int .u64 1) (.slice none 0 0) (.bool false) (.int .u64 0) (.slice none 0 0)),R 3 #[Ox,Ix,Ox,Ox] { tmps := #[V0,V1,ρ q,ρ (q + 1),ρ (q + 1 + 1),ρ (q + 1 + 1 + 1),ρ (q + 1 + 1 + 1 + 1),ρ p7,ρ p8,u,u,u,V1,V13,V14,u,u,u,u,u,u,u,.pointer (some ⟨q,1,none⟩),V23,ς ga 1 1,.pointer (some ⟨q + 1,1,none⟩),V26,ς gb 1 1,V28,V29,V30,V31,.pointer (some ⟨p7,1,none⟩),ς gb 1 1,.int .i64 1,.bool true,u36,v,u38,u,u,u,u,u,u,u,u,u,u,u,u,u,u,u,u,u,u,u,u,u,u,u,u,u,u,u,u,u,u,u,u,u,u,u,u,u,u,u,u],defers := [] } W := by
          intro W fr h7 hga hgb v ht h8
          rw [← hR]
          dsimp only [ρ,ς]
          have k0 := h8.cell0
          have k1 := h8.cell1
          have k2 := h8.cell2
          have k3 := h8.cell3
          have k4 := h8.cell4
          have k5 := h8.cell5
          have f0 := h8.free 0
          have f1 := h8.free 1
          have f2 := h8.free 2
          have f3 := h8.free 3
          have f4 := h8.free 4
          have f5 := h8.free 5
          refine wpAnyIn_ready (rs := [0]) (by kernel_rfl) (by simp) (AllReadyIn.cons rfl (fun K hK => ?_) (AllReadyIn.nil))
          · go_simp; exact hK _ _ (U _ _ _ _ (H2 W fr h7 hga hgb v ht h8))
        have H5 : ∀ (W : World) (fr : BzF w q W) (h7 : EBox W p7 (.slice (some ⟨ga,0,none⟩) 1 1) (.slice (some ⟨gb,0,none⟩) 1 1)) (hga : Arr W ga 22 .u64 [6]) (hgb : Arr W gb 22 .u64 [4]) (h8 : Row6 W p8 88 (.bool false) (.int .u64 1) (.slice none 0 0) (.bool false) (.int .u64 0) (.slice none 0 0)),R 4 #[Ox,Ox,Ox,Ox] { tmps := #[V0,V1,ρ q,ρ (q + 1),ρ (q + 1 + 1),ρ (q + 1 + 1 + 1),ρ (q + 1 + 1 + 1 + 1),ρ p7,ρ p8,u,u,u,V1,V13,V14,u,u,u,u,u,u,u,.pointer (some ⟨q,1,none⟩),V23,ς ga 1 1,.pointer (some ⟨q + 1,1,none⟩),V26,ς gb 1 1,V28,V29,V30,V31,.pointer (some ⟨p7,1,none⟩),ς gb 1 1,.int .i64 1,.bool true,u36,u37,u38,u,u,u,u,u,u,u,u,u,u,u,u,u,u,u,u,u,u,u,u,u,u,u,u,u,u,u,u,u,u,u,u,u,u,u,u,u,u,u,u],defers := [] } W := by
          intro W fr h7 hga hgb h8
          rw [← hR]
          dsimp only [ρ,ς]
          have k0 := h8.cell0
          have k1 := h8.cell1
          have k2 := h8.cell2
          have k3 := h8.cell3
          have k4 := h8.cell4
          have k5 := h8.cell5
          have f0 := h8.free 0
          have f1 := h8.free 1
          have f2 := h8.free 2
          have f3 := h8.free 3
          have f4 := h8.free 4
          have f5 := h8.free 5
          refine wpAnyIn_ready (rs := [0,1]) (by kernel_rfl) (by simp) (AllReadyIn.cons rfl (fun K hK => ?_) (AllReadyIn.cons rfl (fun K hK => ?_) (AllReadyIn.nil)))
          · go_simp; exact hK _ _ (U _ _ _ _ (H3 W fr h7 hga hgb h8))
          · go_simp
            gi_wp2_with (refine ⟨trivial,?_⟩; gi_at_call 49; refine (callsIn_wide.2 (step_64 p7 ga gb 1 1 W (Nat.ne_of_lt lgb) n7a n7b (Nat.le_refl _) (Nat.le_refl _) h7 hga hgb)).mono ?_; rintro e W2 ⟨v,rfl,ht,h7',hga',hgb',ho⟩)
            exact U _ _ _ _ (H4 W2 (fr.only ho hp1) h7' hga' hgb' v ht (h8.only ho n8p))
        exact H5 wr.drew fr.drew h7.drew hga.drew hgb.drew h8.drew
      · have e1 := h7.cell1
        go_wp2_with fail
        clear e1
        have hp1 : ∀ k,k = p7 → q + 5 ≤ k := by rintro k rfl; assumption
        have n8p : ¬ p8 = p7 := Nat.ne_of_gt n87
        have byL := fun W v (ht : IsTurn W v 0 1 1 (-2)) => by_lit 0 1 0 1 1 (-2) false false false true 0 1 1 2 v ⟨by decide,by decide,by decide⟩ ⟨by decide,by decide,by decide⟩ (by decide) (by decide) (by decide) (by decide) 1 (-2) ⟨by decide,by decide,by decide,by decide⟩ ⟨by decide,by decide,by decide,by decide⟩ W ht
        refine wpIn_wide (n := 5) |>.1 ?_
        refine region_ways (by kernel_rfl) fun R hR => ?_
        have U := fun (n : Nat) (l : Array Bool) (a : Act) (w : World) (h : R n l a w) => cast (congrFun (congrFun (congrFun (congrFun hR.symm n) l) a) w) h
        have H0 : ∀ (W : World) (fr : BzF w q W) (g2 : Nat) (h7 : EBox W p7 (.slice (some ⟨gb,0,none⟩) 1 1) (.slice (some ⟨g2,0,none⟩) 0 0)) (hgb : Arr W gb 22 .u64 [2]) (v : Value) (h8 : Row6 W p8 88 (.bool false) (.int .u64 1) (.slice none 0 0) (.bool true) (.int .u64 2) (.slice none 0 0)),R 0 #[Ix,Ix,Ix,Ix] { tmps := #[V0,V1,ρ q,ρ (q + 1),ρ (q + 1 + 1),ρ (q + 1 + 1 + 1),ρ (q + 1 + 1 + 1 + 1),ρ p7,ρ p8,u,u,u,V1,V13,V14,u,u,u,u,u,u,u,.pointer (some ⟨q,1,none⟩),V23,ς ga 1 1,.pointer (some ⟨q + 1,1,none⟩),V26,ς gb 1 1,V28,V29,V30,V31,.pointer (some ⟨p7,1,none⟩),ς gb 1 1,.int .i64 1,.bool true,.agg #[.bool false,.int .u64 0,.slice none 0 0,.bool false,.int .u64 1,.slice none 0 0],v,.agg #[.bool false,.int .u64 1,.slice none 0 0,.bool true,.int .u64 2,.slice none 0 0],u,u,u,u,u,u,u,u,u,u,u,u,u,u,u,u,u,u,u,u,u,u,u,u,u,u,u,u,u,u,u,u,u,u,u,u,u,u,u,u],defers := [] } W := by
          intro W fr g2 h7 hgb v h8
          rw [← hR]
          dsimp only [ρ,ς]
          refine wpAnyIn_done (by kernel_rfl) ?_ _
          go_wp2_with fail
          go_roundg 0
          case measure => omega
          case rel => exact ⟨fr,.inr (.inr ⟨g2,h7,hgb,h8⟩)⟩
        have H1 : ∀ (W : World) (fr : BzF w q W) (g2 : Nat) (h7 : EBox W p7 (.slice (some ⟨gb,0,none⟩) 1 1) (.slice (some ⟨g2,0,none⟩) 0 0)) (hgb : Arr W gb 22 .u64 [2]) (v : Value) (h8 : Row6 W p8 88 (.bool false) (.int .u64 0) (.slice none 0 0) (.bool false) (.int .u64 1) (.slice none 0 0)),R 1 #[Ix,Ix,Ix,Ox] { tmps := #[V0,V1,ρ q,ρ (q + 1),ρ (q + 1 + 1),ρ (q + 1 + 1 + 1),ρ (q + 1 + 1 + 1 + 1),ρ p7,ρ p8,u,u,u,V1,V13,V14,u,u,u,u,u,u,u,.pointer (some ⟨q,1,none⟩),V23,ς ga 1 1,.pointer (some ⟨q + 1,1,none⟩),V26,ς gb 1 1,V28,V29,V30,V31,.pointer (some ⟨p7,1,none⟩),ς gb 1 1,.int .i64 1,.bool true,.agg #[.bool false,.int .u64 0,.slice none 0 0,.bool false,.int .u64 1,.slice none 0 0],v,.agg #[.bool false,.int .u64 1,.slice none 0 0,.bool true,.int .u64 2,.slice none 0 0],u,u,u,u,u,u,u,u,u,u,u,u,u,u,u,u,u,u,u,u,u,u,u,u,u,u,u,u,u,u,u,u,u,u,u,u,u,u,u,u],defers := [] } W := by
          intro W fr g2 h7 hgb v h8
          rw [← hR]
          dsimp only [ρ,ς]
          have k0 := h8.cell0
          have k1 := h8.cell1
          have k2 := h8.cell2
          have k3 := h8.cell3
          have k4 := h8.cell4
          have k5 := h8.cell5
          have f0 := h8.free 0
          have f1 := h8.free 1
          have f2 := h8.free 2
          have f3 := h8.free 3
          have f4 := h8.free 4
          have f5 := h8.free 5
          refine wpAnyIn_ready (rs := [3]) (by kernel_rfl) (by simp) (AllReadyIn.cons rfl (fun K hK => ?_) (AllReadyIn.nil))
          · go_simp; exact hK _ _ (U _ _ _ _ (H0 ((((((W.setCell ⟨p8,0,none⟩ (.bool false)).setCell ⟨p8,1,none⟩ (.int .u64 1)).setCell ⟨p8,2,none⟩ (.slice none 0 0)).setCell ⟨p8,3,none⟩ (.bool true)).setCell ⟨p8,4,none⟩ (.int .u64 2)).setCell ⟨p8,5,none⟩ (.slice none 0 0)) ((((((fr.set l8 _ _).set l8 _ _).set l8 _ _).set l8 _ _).set l8 _ _).set l8 _ _) g2 ((((((h7.other (Nat.ne_of_lt n87) _).other (Nat.ne_of_lt n87) _).other (Nat.ne_of_lt n87) _).other (Nat.ne_of_lt n87) _).other (Nat.ne_of_lt n87) _).other (Nat.ne_of_lt n87) _) ((((((hgb.other (Nat.ne_of_lt n8b) _).other (Nat.ne_of_lt n8b) _).other (Nat.ne_of_lt n8b) _).other (Nat.ne_of_lt n8b) _).other (Nat.ne_of_lt n8b) _).other (Nat.ne_of_lt n8b) _) v (h8.set6 _ _ _ _ _ _)))
        have H2 : ∀ (W : World) (fr : BzF w q W) (g2 : Nat) (h7 : EBox W p7 (.slice (some ⟨gb,0,none⟩) 1 1) (.slice (some ⟨g2,0,none⟩) 0 0)) (hgb : Arr W gb 22 .u64 [2]) (v : Value) (ht : IsTurn W v 0 1 1 (-2)) (h8 : Row6 W p8 88 (.bool false) (.int .u64 0) (.slice none 0 0) (.bool false) (.int .u64 1) (.slice none 0 0)),R 2 #[Ix,Ix,Ox,Ox] { tmps := #[V0,V1,ρ q,ρ (q + 1),ρ (q + 1 + 1),ρ (q + 1 + 1 + 1),ρ (q + 1 + 1 + 1 + 1),ρ p7,ρ p8,u,u,u,V1,V13,V14,u,u,u,u,u,u,u,.pointer (some ⟨q,1,none⟩),V23,ς ga 1 1,.pointer (some ⟨q + 1,1,none⟩),V26,ς gb 1 1,V28,V29,V30,V31,.pointer (some ⟨p7,1,none⟩),ς gb 1 1,.int .i64 1,.bool true,.agg #[.bool false,.int .u64 0,.slice none 0 0,.bool false,.int .u64 1,.slice none 0 0],v,u38,u,u,u,u,u,u,u,u,u,u,u,u,u,u,u,u,u,u,u,u,u,u,u,u,u,u,u,u,u,u,u,u,u,u,u,u,u,u,u,u],defers := [] } W := by
          intro W fr g2 h7 hgb v ht h8
          rw [← hR]
          dsimp only [ρ,ς]
          have k0 := h8.cell0
          have k1 := h8.cell1
          have k2 := h8.cell2
          have k3 := h8.cell3
          have k4 := h8.cell4
          have k5 := h8.cell5
          have f0 := h8.free 0
          have f1 := h8.free 1
          have f2 := h8.free 2
          have f3 := h8.free 3
          have f4 := h8.free 4
          have f5 := h8.free 5
          refine wpAnyIn_ready (rs := [2]) (by kernel_rfl) (by simp) (AllReadyIn.cons rfl (fun K hK => ?_) (AllReadyIn.nil))
          · go_simp
            gi_wp2_with (refine ⟨trivial,?_⟩; gi_at_call 48; refine (callsIn_wide.2 (byL W v ht)).mono ?_; rintro e W2 ⟨rfl,hb⟩)
            exact U _ _ _ _ (H1 W2 (fr.below hb) g2 (h7.below hb h7.lt) (hgb.below hb hgb.lt) v (h8.below hb h8.lt))
        have H3 : ∀ (W : World) (fr : BzF w q W) (h7 : EBox W p7 (.slice (some ⟨ga,0,none⟩) 1 1) (.slice (some ⟨gb,0,none⟩) 1 1)) (hga : Arr W ga 22 .u64 [4]) (hgb : Arr W gb 22 .u64 [2]) (h8 : Row6 W p8 88 (.bool false) (.int .u64 0) (.slice none 0 0) (.bool false) (.int .u64 1) (.slice none 0 0)),R 3 #[Ix,Ox,Ox,Ox] { tmps := #[V0,V1,ρ q,ρ (q + 1),ρ (q + 1 + 1),ρ (q + 1 + 1 + 1),ρ (q + 1 + 1 + 1 + 1),ρ p7,ρ p8,u,u,u,V1,V13,V14,u,u,u,u,u,u,u,.pointer (some ⟨q,1,none⟩),V23,ς ga 1 1,.pointer (some ⟨q + 1,1,none⟩),V26,ς gb 1 1,V28,V29,V30,V31,.pointer (some ⟨p7,1,none⟩),ς gb 1 1,.int .i64 1,.bool true,.agg #[.bool false,.int .u64 0,.slice none 0 0,.bool false,.int .u64 1,.slice none 0 0],u37,u38,u,u,u,u,u,u,u,u,u,u,u,u,u,u,u,u,u,u,u,u,u,u,u,u,u,u,u,u,u,u,u,u,u,u,u,u,u,u,u,u],defers := [] } W := by
          intro W fr h7 hga hgb h8
          rw [← hR]
          dsimp only [ρ,ς]
          have k0 := h8.cell0
          have k1 := h8.cell1
          have k2 := h8.cell2
          have k3 := h8.cell3
          have k4 := h8.cell4
          have k5 := h8.cell5
          have f0 := h8.free 0
          have f1 := h8.free 1
          have f2 := h8.free 2
          have f3 := h8.free 3
          have f4 := h8.free 4
          have f5 := h8.free 5
          refine wpAnyIn_ready (rs := [1]) (by kernel_rfl) (by simp) (AllReadyIn.cons rfl (fun K hK => ?_) (AllReadyIn.nil))
          · go_simp
            gi_wp2_with (refine ⟨trivial,?_⟩; gi_at_call 49; refine (callsIn_wide.2 (step_42 p7 ga gb 1 1 W (Nat.ne_of_lt lgb) n7a n7b (Nat.le_refl _) (Nat.le_refl _) h7 hga hgb)).mono ?_; rintro e W2 ⟨v,g2,rfl,ht,h7',ho⟩)
            exact U _ _ _ _ (H2 W2 (fr.only ho hp1) g2 h7' (hgb.only ho (Ne.symm n7b)) v ht (h8.only ho n8p))
        have H4 : ∀ (W : World) (fr : BzF w q W) (g2 : Nat) (h7 : EBox W p7 (.slice (some ⟨gb,0,none⟩) 1 1) (.slice (some ⟨g2,0,none⟩) 0 0)) (hgb : Arr W gb 22 .u64 [2]) (v : Value) (ht : IsTurn W v 0 1 1 (-2)) (h8 : Row6 W p8 88 (.bool false) (.int .u64 0) (.slice none 0 0) (.bool false) (.int .u64 1) (.slice none 0 0)),R 3 #[Ox,Ix,Ox,Ox] { tmps := #[V0,V1,ρ q,ρ (q + 1),ρ (q + 1 + 1),ρ (q + 1 + 1 + 1),ρ (q + 1 + 1 + 1 + 1),ρ p7,ρ p8,u,u,u,V1,V13,V14,u,u,u,u,u,u,u,.pointer (some ⟨q,1,none⟩),V23,ς ga 1 1,.pointer (some ⟨q + 1,1,none⟩),V26,ς gb 1 1,V28,V29,V30,V31,.pointer (some ⟨p7,1,none⟩),ς gb 1 1,.int .i64 1,.bool true,u36,v,u38,u,u,u,u,u,u,u,u,u,u,u,u,u,u,u,u,u,u,u,u,u,u,u,u,u,u,u,u,u,u,u,u,u,u,u,u,u,u,u,u],defers := [] } W := by
          intro W fr g2 h7 hgb v ht h8
          rw [← hR]
          dsimp only [ρ,ς]
          have k0 := h8.cell0
          have k1 := h8.cell1
          have k2 := h8.cell2
          have k3 := h8.cell3
          have k4 := h8.cell4
          have k5 := h8.cell5
          have f0 := h8.free 0
          have f1 := h8.free 1
          have f2 := h8.free 2
          have f3 := h8.free 3
          have f4 := h8.free 4
          have f5 := h8.free 5
          refine wpAnyIn_ready (rs := [0]) (by kernel_rfl) (by simp) (AllReadyIn.cons rfl (fun K hK => ?_) (AllReadyIn.nil))
          · go_simp; exact hK _ _ (U _ _ _ _ (H2 W fr g2 h7 hgb v ht h8))
        have H5 : ∀ (W : World) (fr : BzF w q W) (h7 : EBox W p7 (.slice (some ⟨ga,0,none⟩) 1 1) (.slice (some ⟨gb,0,none⟩) 1 1)) (hga : Arr W ga 22 .u64 [4]) (hgb : Arr W gb 22 .u64 [2]) (h8 : Row6 W p8 88 (.bool false) (.int .u64 0) (.slice none 0 0) (.bool false) (.int .u64 1) (.slice none 0 0)),R 4 #[Ox,Ox,Ox,Ox] { tmps := #[V0,V1,ρ q,ρ (q + 1),ρ (q + 1 + 1),ρ (q + 1 + 1 + 1),ρ (q + 1 + 1 + 1 + 1),ρ p7,ρ p8,u,u,u,V1,V13,V14,u,u,u,u,u,u,u,.pointer (some ⟨q,1,none⟩),V23,ς ga 1 1,.pointer (some ⟨q + 1,1,none⟩),V26,ς gb 1 1,V28,V29,V30,V31,.pointer (some ⟨p7,1,none⟩),ς gb 1 1,.int .i64 1,.bool true,u36,u37,u38,u,u,u,u,u,u,u,u,u,u,u,u,u,u,u,u,u,u,u,u,u,u,u,u,u,u,u,u,u,u,u,u,u,u,u,u,u,u,u,u],defers := [] } W := by
          intro W fr h7 hga hgb h8
          rw [← hR]
          dsimp only [ρ,ς]
          have k0 := h8.cell0
          have k1 := h8.cell1
          have k2 := h8.cell2
          have k3 := h8.cell3
          have k4 := h8.cell4
          have k5 := h8.cell5
          have f0 := h8.free 0
          have f1 := h8.free 1
          have f2 := h8.free 2
          have f3 := h8.free 3
          have f4 := h8.free 4
          have f5 := h8.free 5
          refine wpAnyIn_ready (rs := [0,1]) (by kernel_rfl) (by simp) (AllReadyIn.cons rfl (fun K hK => ?_) (AllReadyIn.cons rfl (fun K hK => ?_) (AllReadyIn.nil)))
          · go_simp; exact hK _ _ (U _ _ _ _ (H3 W fr h7 hga hgb h8))
          · go_simp
            gi_wp2_with (refine ⟨trivial,?_⟩; gi_at_call 49; refine (callsIn_wide.2 (step_42 p7 ga gb 1 1 W (Nat.ne_of_lt lgb) n7a n7b (Nat.le_refl _) (Nat.le_refl _) h7 hga hgb)).mono ?_; rintro e W2 ⟨v,g2,rfl,ht,h7',ho⟩)
            exact U _ _ _ _ (H4 W2 (fr.only ho hp1) g2 h7' (hgb.only ho (Ne.symm n7b)) v ht (h8.only ho n8p))
        exact H5 wr.drew fr.drew h7.drew hga.drew hgb.drew h8.drew
      · have e1 := h7.cell1
        go_wp2_with fail
        clear e1
        have z7 := h7.lt
        have z8 := h8.lt
        have m74 : p7 ≠ q + 1 + 1 := by omega
        have m75 : p7 ≠ q + 1 + 1 + 1 := by omega
        have m84 : p8 ≠ q + 1 + 1 := by omega
        have m85 : p8 ≠ q + 1 + 1 + 1 := by omega
        have nb : ∀ W',Below wr.heap.size wr W' → Calls Tryz.prog 50 #[.slice (some ⟨gb,0,none⟩) 1 1] W' fun e w' => e = .returned (.agg #[.int .u64 2,.slice none 0 0]) ∧ Below W'.heap.size W' w' := fun W' hb => number_one 2 (by decide) gb 22 1 W' (hgb.below hb hgb.lt)
        have acc := Below.refl wr.heap.size wr
        have e0 := (h7.below acc z7).cell0
        have k0 := (h8.below acc z8).cell0
        have k1 := (h8.below acc z8).cell1
        have k2 := (h8.below acc z8).cell2
        have r40 := (fr.below acc).r4.cell0
        have r41 := (fr.below acc).r4.cell1
        have r42 := (fr.below acc).r4.cell2
        have r50 := (fr.below acc).r5.cell0
        have r51 := (fr.below acc).r5.cell1
        have r52 := (fr.below acc).r5.cell2
        have fr40 := (fr.below acc).r4.free 0
        have fr41 := (fr.below acc).r4.free 1
        have fr42 := (fr.below acc).r4.free 2
        have fr50 := (fr.below acc).r5.free 0
        have fr51 := (fr.below acc).r5.free 1
        have fr52 := (fr.below acc).r5.free 2
        go_region_held3 (fun w' => w'.cell? ⟨p7,0,none⟩ = some (.slice (some ⟨gb,0,none⟩) 1 1) ∧ w'.cell? ⟨p8,0,none⟩ = some (.bool false) ∧ w'.cell? ⟨p8,1,none⟩ = some (.int .u64 1) ∧ w'.cell? ⟨p8,2,none⟩ = some (.slice none 0 0))
          (first | with_reducible exact ⟨(h7.below acc z7).cell0,(h8.below acc z8).cell0,(h8.below acc z8).cell1,(h8.below acc z8).cell2⟩ | with_reducible exact ⟨(h7.below acc.drew z7).cell0,(h8.below acc.drew z8).cell0,(h8.below acc.drew z8).cell1,(h8.below acc.drew z8).cell2⟩ | with_reducible exact ⟨((((h7.below acc z7).other (a := ⟨q + 1 + 1,0,none⟩) m74 _).other (a := ⟨q + 1 + 1,1,none⟩) m74 _).other (a := ⟨q + 1 + 1,2,none⟩) m74 _).cell0,((((h8.below acc z8).other (a := ⟨q + 1 + 1,0,none⟩) m84 _).other (a := ⟨q + 1 + 1,1,none⟩) m84 _).other (a := ⟨q + 1 + 1,2,none⟩) m84 _).cell0,((((h8.below acc z8).other (a := ⟨q + 1 + 1,0,none⟩) m84 _).other (a := ⟨q + 1 + 1,1,none⟩) m84 _).other (a := ⟨q + 1 + 1,2,none⟩) m84 _).cell1,((((h8.below acc z8).other (a := ⟨q + 1 + 1,0,none⟩) m84 _).other (a := ⟨q + 1 + 1,1,none⟩) m84 _).other (a := ⟨q + 1 + 1,2,none⟩) m84 _).cell2⟩ | with_reducible exact ⟨(((((((h7.below acc z7).other (a := ⟨q + 1 + 1,0,none⟩) m74 _).other (a := ⟨q + 1 + 1,1,none⟩) m74 _).other (a := ⟨q + 1 + 1,2,none⟩) m74 _).other (a := ⟨q + 1 + 1 + 1,0,none⟩) m75 _).other (a := ⟨q + 1 + 1 + 1,1,none⟩) m75 _).other (a := ⟨q + 1 + 1 + 1,2,none⟩) m75 _).cell0,(((((((h8.below acc z8).other (a := ⟨q + 1 + 1,0,none⟩) m84 _).other (a := ⟨q + 1 + 1,1,none⟩) m84 _).other (a := ⟨q + 1 + 1,2,none⟩) m84 _).other (a := ⟨q + 1 + 1 + 1,0,none⟩) m85 _).other (a := ⟨q + 1 + 1 + 1,1,none⟩) m85 _).other (a := ⟨q + 1 + 1 + 1,2,none⟩) m85 _).cell0,(((((((h8.below acc z8).other (a := ⟨q + 1 + 1,0,none⟩) m84 _).other (a := ⟨q + 1 + 1,1,none⟩) m84 _).other (a := ⟨q + 1 + 1,2,none⟩) m84 _).other (a := ⟨q + 1 + 1 + 1,0,none⟩) m85 _).other (a := ⟨q + 1 + 1 + 1,1,none⟩) m85 _).other (a := ⟨q + 1 + 1 + 1,2,none⟩) m85 _).cell1,(((((((h8.below acc z8).other (a := ⟨q + 1 + 1,0,none⟩) m84 _).other (a := ⟨q + 1 + 1,1,none⟩) m84 _).other (a := ⟨q + 1 + 1,2,none⟩) m84 _).other (a := ⟨q + 1 + 1 + 1,0,none⟩) m85 _).other (a := ⟨q + 1 + 1 + 1,1,none⟩) m85 _).other (a := ⟨q + 1 + 1 + 1,2,none⟩) m85 _).cell2⟩)
          (first
            | (go_at_call 50; (first | (have q1 := nb _ acc; (with_reducible refine q1.mono ?_); clear q1) | (have q1 := nb _ acc.drew; (with_reducible refine q1.mono ?_); clear q1)); rintro e wA ⟨rfl,hb⟩; (first | replace acc := below_acc acc acc.size hb | replace acc := below_accD acc acc.size hb); have e0 := (h7.below acc z7).cell0; have k0 := (h8.below acc z8).cell0; have k1 := (h8.below acc z8).cell1; have k2 := (h8.below acc z8).cell2; have r40 := (fr.below acc).r4.cell0; have r41 := (fr.below acc).r4.cell1; have r42 := (fr.below acc).r4.cell2; have r50 := (fr.below acc).r5.cell0; have r51 := (fr.below acc).r5.cell1; have r52 := (fr.below acc).r5.cell2; have fr40 := (fr.below acc).r4.free 0; have fr41 := (fr.below acc).r4.free 1; have fr42 := (fr.below acc).r4.free 2; have fr50 := (fr.below acc).r5.free 0; have fr51 := (fr.below acc).r5.free 1; have fr52 := (fr.below acc).r5.free 2; clear hb))
        all_goals
          have G := ((fr.below acc).g.s4 false 2).s5 false 1
          generalize ((((((wA.setCell ⟨q + 1 + 1,0,none⟩ (.bool false)).setCell ⟨q + 1 + 1,1,none⟩ (.int .u64 2)).setCell ⟨q + 1 + 1,2,none⟩ (.slice none 0 0)).setCell ⟨q + 1 + 1 + 1,0,none⟩ (.bool false)).setCell ⟨q + 1 + 1 + 1,1,none⟩ (.int .u64 1)).setCell ⟨q + 1 + 1 + 1,2,none⟩ (.slice none 0 0)) = W7 at G ⊢
          clear hgb h7 h8 acc nb z7 z8 fr e0 k0 k1 k2 r40 r50 fr40 fr50 r41 r51 fr41 fr51 r42 r52 fr42 fr52
          have ra0 := G.ra.cell0
          have ra1 := G.ra.cell1
          have ra2 := G.ra.cell2
          have rb0 := G.rb.cell0
          have rb1 := G.rb.cell1
          have rb2 := G.rb.cell2
          have r40 := G.r4.cell0
          have r41 := G.r4.cell1
          have r42 := G.r4.cell2
          go_wp2_with fail
          refine (div_lit 4 2 2 0 false false false false 4 2 2 0 ⟨by decide,by decide,by decide⟩ ⟨by decide,by decide,by decide⟩ (by decide) ⟨by decide,by decide,by decide,by decide⟩ ⟨by decide,by decide,by decide,by decide⟩ W7).mono ?_
          rintro e W8 ⟨rfl,hb⟩
          replace G := G.below hb
          clear hb ra0 ra1 ra2 rb0 rb1 rb2 r40 r41 r42
          have hb : Below W8.heap.size W8 ((W8.alloc (.cells #[.bool false,.int .u64 2,.slice none 0 0] 27)).alloc (.cells #[.bool false,.int .u64 0,.slice none 0 0] 27)) := by go_grown
          have h9 := (Row3.new W8 (.bool false) (.int .u64 2) (.slice none 0 0) W8.heap.size rfl).alloc (.cells #[.bool false,.int .u64 0,.slice none 0 0] 27)
          replace G := G.below hb
          clear hb
          have r50 := G.r5.cell0
          have r51 := G.r5.cell1
          have r52 := G.r5.cell2
          have n0 := h9.cell0
          have n1 := h9.cell1
          have n2 := h9.cell2
          go_wp2_with fail
          refine (div_lit 1 2 0 1 false false false false 1 2 0 1 ⟨by decide,by decide,by decide⟩ ⟨by decide,by decide,by decide⟩ (by decide) ⟨by decide,by decide,by decide,by decide⟩ ⟨by decide,by decide,by decide,by decide⟩ _).mono ?_
          rintro e W10 ⟨rfl,hb⟩
          replace G := G.below hb
          clear hb h9 r50 r51 r52 n0 n1 n2
          have r50 := G.r5.cell0
          have r51 := G.r5.cell1
          have r52 := G.r5.cell2
          have fr50 := G.r5.free 0
          have fr51 := G.r5.free 1
          have fr52 := G.r5.free 2
          go_wp2_with fail
          replace G := G.s5 false 1
          generalize (((W10.setCell ⟨q + 1 + 1 + 1,0,none⟩ (.bool false)).setCell ⟨q + 1 + 1 + 1,1,none⟩ (.int .u64 1)).setCell ⟨q + 1 + 1 + 1,2,none⟩ (.slice none 0 0)) = W11 at G ⊢
          clear r50 r51 r52 fr50 fr51 fr52
          have acc := Below.refl W11.heap.size W11
          have ra0 := (G.below acc).ra.cell0
          have ra1 := (G.below acc).ra.cell1
          have ra2 := (G.below acc).ra.cell2
          have rb0 := (G.below acc).rb.cell0
          have rb1 := (G.below acc).rb.cell1
          have rb2 := (G.below acc).rb.cell2
          have r40 := (G.below acc).r4.cell0
          have r41 := (G.below acc).r4.cell1
          have r42 := (G.below acc).r4.cell2
          have r50 := (G.below acc).r5.cell0
          have r51 := (G.below acc).r5.cell1
          have r52 := (G.below acc).r5.cell2
          have r60 := (G.below acc).r6.cell0
          have r61 := (G.below acc).r6.cell1
          have r62 := (G.below acc).r6.cell2
          have fr60 := (G.below acc).r6.free 0
          have fr61 := (G.below acc).r6.free 1
          have fr62 := (G.below acc).r6.free 2
          have qm := fun W => mul_lit 6 1 6 false false false 6 1 6 ⟨by decide,by decide,by decide⟩ ⟨by decide,by decide,by decide⟩ ⟨by decide,by decide,by decide,by decide⟩ W
          have qs := fun W => sub_lit 2 6 (-4) false false true 2 6 4 ⟨by decide,by decide,by decide⟩ ⟨by decide,by decide,by decide⟩ ⟨by decide,by decide,by decide,by decide⟩ W
          have qd := fun W => div_lit (-4) 4 (-1) 0 true false true false 4 4 1 0 ⟨by decide,by decide,by decide⟩ ⟨by decide,by decide,by decide⟩ (by decide) ⟨by decide,by decide,by decide,by decide⟩ ⟨by decide,by decide,by decide,by decide⟩ W
          go_region_held3 (fun w' => w'.cell? ⟨q + 1 + 1,0,none⟩ = some (.bool false) ∧ w'.cell? ⟨q + 1 + 1,1,none⟩ = some (.int .u64 2) ∧ w'.cell? ⟨q + 1 + 1,2,none⟩ = some (.slice none 0 0) ∧ w'.cell? ⟨q,0,none⟩ = some (.bool false) ∧ w'.cell? ⟨q,1,none⟩ = some (.int .u64 6) ∧ w'.cell? ⟨q,2,none⟩ = some (.slice none 0 0) ∧ w'.cell? ⟨q + 1 + 1 + 1,0,none⟩ = some (.bool false) ∧ w'.cell? ⟨q + 1 + 1 + 1,1,none⟩ = some (.int .u64 1) ∧ w'.cell? ⟨q + 1 + 1 + 1,2,none⟩ = some (.slice none 0 0) ∧ w'.cell? ⟨q + 1,0,none⟩ = some (.bool false) ∧ w'.cell? ⟨q + 1,1,none⟩ = some (.int .u64 4) ∧ w'.cell? ⟨q + 1,2,none⟩ = some (.slice none 0 0))
            (first | with_reducible exact ⟨(G.below acc).r4.cell0,(G.below acc).r4.cell1,(G.below acc).r4.cell2,(G.below acc).ra.cell0,(G.below acc).ra.cell1,(G.below acc).ra.cell2,(G.below acc).r5.cell0,(G.below acc).r5.cell1,(G.below acc).r5.cell2,(G.below acc).rb.cell0,(G.below acc).rb.cell1,(G.below acc).rb.cell2⟩ | with_reducible exact ⟨(G.below acc.drew).r4.cell0,(G.below acc.drew).r4.cell1,(G.below acc.drew).r4.cell2,(G.below acc.drew).ra.cell0,(G.below acc.drew).ra.cell1,(G.below acc.drew).ra.cell2,(G.below acc.drew).r5.cell0,(G.below acc.drew).r5.cell1,(G.below acc.drew).r5.cell2,(G.below acc.drew).rb.cell0,(G.below acc.drew).rb.cell1,(G.below acc.drew).rb.cell2⟩ | with_reducible exact ⟨((G.below acc).s6 true 1).r4.cell0,((G.below acc).s6 true 1).r4.cell1,((G.below acc).s6 true 1).r4.cell2,((G.below acc).s6 true 1).ra.cell0,((G.below acc).s6 true 1).ra.cell1,((G.below acc).s6 true 1).ra.cell2,((G.below acc).s6 true 1).r5.cell0,((G.below acc).s6 true 1).r5.cell1,((G.below acc).s6 true 1).r5.cell2,((G.below acc).s6 true 1).rb.cell0,((G.below acc).s6 true 1).rb.cell1,((G.below acc).s6 true 1).rb.cell2⟩)
            (first
              | (go_at_call 34; (with_reducible refine (qm _).mono ?_); rintro e wM ⟨rfl,hb⟩; (first | replace acc := below_acc acc acc.size hb | replace acc := below_accD acc acc.size hb); have ra0 := (G.below acc).ra.cell0; have ra1 := (G.below acc).ra.cell1; have ra2 := (G.below acc).ra.cell2; have rb0 := (G.below acc).rb.cell0; have rb1 := (G.below acc).rb.cell1; have rb2 := (G.below acc).rb.cell2; have r40 := (G.below acc).r4.cell0; have r41 := (G.below acc).r4.cell1; have r42 := (G.below acc).r4.cell2; have r50 := (G.below acc).r5.cell0; have r51 := (G.below acc).r5.cell1; have r52 := (G.below acc).r5.cell2; have r60 := (G.below acc).r6.cell0; have r61 := (G.below acc).r6.cell1; have r62 := (G.below acc).r6.cell2; have fr60 := (G.below acc).r6.free 0; have fr61 := (G.below acc).r6.free 1; have fr62 := (G.below acc).r6.free 2; clear hb)
              | (go_at_call 51; (with_reducible refine (qs _).mono ?_); rintro e wS ⟨rfl,hb⟩; (first | replace acc := below_acc acc acc.size hb | replace acc := below_accD acc acc.size hb); have ra0 := (G.below acc).ra.cell0; have ra1 := (G.below acc).ra.cell1; have ra2 := (G.below acc).ra.cell2; have rb0 := (G.below acc).rb.cell0; have rb1 := (G.below acc).rb.cell1; have rb2 := (G.below acc).rb.cell2; have r40 := (G.below acc).r4.cell0; have r41 := (G.below acc).r4.cell1; have r42 := (G.below acc).r4.cell2; have r50 := (G.below acc).r5.cell0; have r51 := (G.below acc).r5.cell1; have r52 := (G.below acc).r5.cell2; have r60 := (G.below acc).r6.cell0; have r61 := (G.below acc).r6.cell1; have r62 := (G.below acc).r6.cell2; have fr60 := (G.below acc).r6.free 0; have fr61 := (G.below acc).r6.free 1; have fr62 := (G.below acc).r6.free 2; clear hb)
              | (go_at_call 8; (with_reducible refine (qd _).mono ?_); rintro e wD ⟨rfl,hb⟩; (first | replace acc := below_acc acc acc.size hb | replace acc := below_accD acc acc.size hb); have ra0 := (G.below acc).ra.cell0; have ra1 := (G.below acc).ra.cell1; have ra2 := (G.below acc).ra.cell2; have rb0 := (G.below acc).rb.cell0; have rb1 := (G.below acc).rb.cell1; have rb2 := (G.below acc).rb.cell2; have r40 := (G.below acc).r4.cell0; have r41 := (G.below acc).r4.cell1; have r42 := (G.below acc).r4.cell2; have r50 := (G.below acc).r5.cell0; have r51 := (G.below acc).r5.cell1; have r52 := (G.below acc).r5.cell2; have r60 := (G.below acc).r6.cell0; have r61 := (G.below acc).r6.cell1; have r62 := (G.below acc).r6.cell2; have fr60 := (G.below acc).r6.free 0; have fr61 := (G.below acc).r6.free 1; have fr62 := (G.below acc).r6.free 2; clear hb))
          all_goals
            have G12 := (G.below acc).s6 true 1
            clear G acc qm qs qd ra0 ra1 ra2 rb0 rb1 rb2 r40 r41 r42 r50 r51 r52 r60 r61 r62 fr60 fr61 fr62
            generalize (((wD.setCell ⟨q + 1 + 1 + 1 + 1,0,none⟩ (.bool true)).setCell ⟨q + 1 + 1 + 1 + 1,1,none⟩ (.int .u64 1)).setCell ⟨q + 1 + 1 + 1 + 1,2,none⟩ (.slice none 0 0)) = W12 at G12 ⊢
            have r40 := G12.r4.cell0
            have r41 := G12.r4.cell1
            have r42 := G12.r4.cell2
            have r50 := G12.r5.cell0
            have r51 := G12.r5.cell1
            have r52 := G12.r5.cell2
            have r60 := G12.r6.cell0
            have r61 := G12.r6.cell1
            have r62 := G12.r6.cell2
            have fr40 := G12.r4.free 0
            have fr41 := G12.r4.free 1
            have fr42 := G12.r4.free 2
            have fr50 := G12.r5.free 0
            have fr51 := G12.r5.free 1
            have fr52 := G12.r5.free 2
            have fr60 := G12.r6.free 0
            have fr61 := G12.r6.free 1
            have fr62 := G12.r6.free 2
            go_wp2_with fail
            go_region
            have G := (((G12.s4 false 2).s5 false 1).s6 true 1).drew
            clear G12 r40 r41 r42 r50 r51 r52 r60 r61 r62 fr40 fr41 fr42 fr50 fr51 fr52 fr60 fr61 fr62
            generalize (((((((((W12.setCell ⟨q + 1 + 1,0,none⟩ (.bool false)).setCell ⟨q + 1 + 1,1,none⟩ (.int .u64 2)).setCell ⟨q + 1 + 1,2,none⟩ (.slice none 0 0)).setCell ⟨q + 1 + 1 + 1,0,none⟩ (.bool false)).setCell ⟨q + 1 + 1 + 1,1,none⟩ (.int .u64 1)).setCell ⟨q + 1 + 1 + 1,2,none⟩ (.slice none 0 0)).setCell ⟨q + 1 + 1 + 1 + 1,0,none⟩ (.bool true)).setCell ⟨q + 1 + 1 + 1 + 1,1,none⟩ (.int .u64 1)).setCell ⟨q + 1 + 1 + 1 + 1,2,none⟩ (.slice none 0 0)).drew = W13 at G ⊢
            go_wp2_with fail
            refine bodyPost_ret (v := .tuple #[.agg #[.bool false,.int .u64 2,.slice none 0 0],.agg #[.bool false,.int .u64 1,.slice none 0 0],.agg #[.bool true,.int .u64 1,.slice none 0 0]]) ?_ rfl ⟨rfl,G.bw⟩
            simp [results,Tryz.results13,asAddr,run_loadVar_int G.r4,run_loadVar_int G.r5,run_loadVar_int G.r6]
  have H1 : ∀ (W : World) (acc : Below W1.heap.size W1 W) (ga : Nat) (hga : Arr W ga 22 .u64 [6]) (lga : W1.heap.size ≤ ga) (gb : Nat) (hgb : Arr W gb 22 .u64 [4]) (lgb : ga < gb) (p7 : Nat) (h7 : EBox W p7 (.slice none 0 0) (.slice none 0 0)) (l7 : W1.heap.size ≤ p7) (n7a : p7 ≠ ga) (n7b : p7 ≠ gb),R 1 #[Ix,Ix,Ix,Ix,Ix,Ix,Ix,Ix,Ox] { tmps := #[V0,V1,ρ q,ρ (q + 1),ρ (q + 1 + 1),ρ (q + 1 + 1 + 1),ρ (q + 1 + 1 + 1 + 1),ρ p7,u,u,u,u,V1,V13,V14,u,u,u,u,u,u,u,.pointer (some ⟨q,1,none⟩),ν 6,ς ga 1 1,.pointer (some ⟨q + 1,1,none⟩),ν 4,ς gb 1 1,.agg #[ς ga 1 1,ς gb 1 1],u,u,u,u,u,u,u,u,u,u,u,u,u,u,u,u,u,u,u,u,u,u,u,u,u,u,u,u,u,u,u,u,u,u,u,u,u,u,u,u,u,u,u,u,u,u,u,u,u,u],defers := [] } W := by
    intro W acc ga hga lga gb hgb lgb p7 h7 l7 n7a n7b
    rw [← hR]
    dsimp only [ρ,ς,ν]
    have a1 := (fr.below acc).ra.cell1
    have a2 := (fr.below acc).ra.cell2
    have c1 := (fr.below acc).rb.cell1
    have c2 := (fr.below acc).rb.cell2
    have e0 := h7.cell0
    have e1 := h7.cell1
    have f0 := h7.free 0
    have f1 := h7.free 1
    refine wpAnyIn_ready (rs := [8]) (by kernel_rfl) (by simp) (AllReadyIn.cons rfl (fun K hK => ?_) (AllReadyIn.nil))
    · go_simp; exact hK _ _ (U _ _ _ _ (H0 ((W.setCell ⟨p7,0,none⟩ (.slice (some ⟨ga,0,none⟩) 1 1)).setCell ⟨p7,1,none⟩ (.slice (some ⟨gb,0,none⟩) 1 1)) (below_two acc l7 _ _) ga ((hga.other (Ne.symm n7a) _).other (Ne.symm n7a) _) lga gb ((hgb.other (Ne.symm n7b) _).other (Ne.symm n7b) _) lgb p7 ((h7.set0 _).set1 _) l7 n7a n7b))
  have H2 : ∀ (W : World) (acc : Below W1.heap.size W1 W) (ga : Nat) (hga : Arr W ga 22 .u64 [6]) (lga : W1.heap.size ≤ ga) (gb : Nat) (hgb : Arr W gb 22 .u64 [4]) (lgb : ga < gb),R 2 #[Ix,Ix,Ix,Ix,Ix,Ix,Ix,Ox,Ox] { tmps := #[V0,V1,ρ q,ρ (q + 1),ρ (q + 1 + 1),ρ (q + 1 + 1 + 1),ρ (q + 1 + 1 + 1 + 1),u,u,u,u,u,V1,V13,V14,u,u,u,u,u,u,u,.pointer (some ⟨q,1,none⟩),ν 6,ς ga 1 1,.pointer (some ⟨q + 1,1,none⟩),ν 4,ς gb 1 1,.agg #[ς ga 1 1,ς gb 1 1],u,u,u,u,u,u,u,u,u,u,u,u,u,u,u,u,u,u,u,u,u,u,u,u,u,u,u,u,u,u,u,u,u,u,u,u,u,u,u,u,u,u,u,u,u,u,u,u,u,u],defers := [] } W := by
    intro W acc ga hga lga gb hgb lgb
    rw [← hR]
    dsimp only [ρ,ς,ν]
    have a1 := (fr.below acc).ra.cell1
    have a2 := (fr.below acc).ra.cell2
    have c1 := (fr.below acc).rb.cell1
    have c2 := (fr.below acc).rb.cell2
    refine wpAnyIn_ready (rs := [7]) (by kernel_rfl) (by simp) (AllReadyIn.cons rfl (fun K hK => ?_) (AllReadyIn.nil))
    · go_simp; exact hK _ _ (U _ _ _ _ (H1 (W.alloc (.cells #[.slice none 0 0,.slice none 0 0] 86)) (acc.alloc acc.size _) ga (hga.alloc _) lga gb (hgb.alloc _) lgb W.heap.size (heap_new W _ _ rfl) acc.size (Nat.ne_of_gt hga.lt) (Nat.ne_of_gt hgb.lt)))
  have H3 : ∀ (W : World) (acc : Below W1.heap.size W1 W) (ga : Nat) (hga : Arr W ga 22 .u64 [6]) (lga : W1.heap.size ≤ ga) (gb : Nat) (hgb : Arr W gb 22 .u64 [4]) (lgb : ga < gb) (p7 : Nat) (h7 : EBox W p7 (.slice none 0 0) (.slice none 0 0)) (l7 : W1.heap.size ≤ p7) (n7a : p7 ≠ ga) (n7b : p7 ≠ gb),R 2 #[Ix,Ix,Ix,Ix,Ix,Ix,Ox,Ix,Ox] { tmps := #[V0,V1,ρ q,ρ (q + 1),ρ (q + 1 + 1),ρ (q + 1 + 1 + 1),ρ (q + 1 + 1 + 1 + 1),ρ p7,u,u,u,u,V1,V13,V14,u,u,u,u,u,u,u,.pointer (some ⟨q,1,none⟩),ν 6,ς ga 1 1,.pointer (some ⟨q + 1,1,none⟩),ν 4,ς gb 1 1,u,u,u,u,u,u,u,u,u,u,u,u,u,u,u,u,u,u,u,u,u,u,u,u,u,u,u,u,u,u,u,u,u,u,u,u,u,u,u,u,u,u,u,u,u,u,u,u,u,u,u],defers := [] } W := by
    intro W acc ga hga lga gb hgb lgb p7 h7 l7 n7a n7b
    rw [← hR]
    dsimp only [ρ,ς,ν]
    have a1 := (fr.below acc).ra.cell1
    have a2 := (fr.below acc).ra.cell2
    have c1 := (fr.below acc).rb.cell1
    have c2 := (fr.below acc).rb.cell2
    have e0 := h7.cell0
    have e1 := h7.cell1
    have f0 := h7.free 0
    have f1 := h7.free 1
    refine wpAnyIn_ready (rs := [6]) (by kernel_rfl) (by simp) (AllReadyIn.cons rfl (fun K hK => ?_) (AllReadyIn.nil))
    · go_simp; exact hK _ _ (U _ _ _ _ (H1 W acc ga hga lga gb hgb lgb p7 h7 l7 n7a n7b))
  have H4 : ∀ (W : World) (acc : Below W1.heap.size W1 W) (ga : Nat) (hga : Arr W ga 22 .u64 [6]) (lga : W1.heap.size ≤ ga) (gb : Nat) (hgb : Arr W gb 22 .u64 [4]) (lgb : ga < gb),R 3 #[Ix,Ix,Ix,Ix,Ix,Ix,Ox,Ox,Ox] { tmps := #[V0,V1,ρ q,ρ (q + 1),ρ (q + 1 + 1),ρ (q + 1 + 1 + 1),ρ (q + 1 + 1 + 1 + 1),u,u,u,u,u,V1,V13,V14,u,u,u,u,u,u,u,.pointer (some ⟨q,1,none⟩),ν 6,ς ga 1 1,.pointer (some ⟨q + 1,1,none⟩),ν 4,ς gb 1 1,u,u,u,u,u,u,u,u,u,u,u,u,u,u,u,u,u,u,u,u,u,u,u,u,u,u,u,u,u,u,u,u,u,u,u,u,u,u,u,u,u,u,u,u,u,u,u,u,u,u,u],defers := [] } W := by
    intro W acc ga hga lga gb hgb lgb
    rw [← hR]
    dsimp only [ρ,ς,ν]
    have a1 := (fr.below acc).ra.cell1
    have a2 := (fr.below acc).ra.cell2
    have c1 := (fr.below acc).rb.cell1
    have c2 := (fr.below acc).rb.cell2
    refine wpAnyIn_ready (rs := [6,7]) (by kernel_rfl) (by simp) (AllReadyIn.cons rfl (fun K hK => ?_) (AllReadyIn.cons rfl (fun K hK => ?_) (AllReadyIn.nil)))
    · go_simp; exact hK _ _ (U _ _ _ _ (H2 W acc ga hga lga gb hgb lgb))
    · go_simp; exact hK _ _ (U _ _ _ _ (H3 (W.alloc (.cells #[.slice none 0 0,.slice none 0 0] 86)) (acc.alloc acc.size _) ga (hga.alloc _) lga gb (hgb.alloc _) lgb W.heap.size (heap_new W _ _ rfl) acc.size (Nat.ne_of_gt hga.lt) (Nat.ne_of_gt hgb.lt)))
  have H5 : ∀ (W : World) (acc : Below W1.heap.size W1 W) (ga : Nat) (hga : Arr W ga 22 .u64 [6]) (lga : W1.heap.size ≤ ga) (p7 : Nat) (h7 : EBox W p7 (.slice none 0 0) (.slice none 0 0)) (l7 : W1.heap.size ≤ p7) (n7a : p7 ≠ ga),R 3 #[Ix,Ix,Ix,Ix,Ix,Ox,Ox,Ix,Ox] { tmps := #[V0,V1,ρ q,ρ (q + 1),ρ (q + 1 + 1),ρ (q + 1 + 1 + 1),ρ (q + 1 + 1 + 1 + 1),ρ p7,u,u,u,u,V1,V13,V14,u,u,u,u,u,u,u,.pointer (some ⟨q,1,none⟩),ν 6,ς ga 1 1,.pointer (some ⟨q + 1,1,none⟩),ν 4,u,u,u,u,u,u,u,u,u,u,u,u,u,u,u,u,u,u,u,u,u,u,u,u,u,u,u,u,u,u,u,u,u,u,u,u,u,u,u,u,u,u,u,u,u,u,u,u,u,u,u,u],defers := [] } W := by
    intro W acc ga hga lga p7 h7 l7 n7a
    rw [← hR]
    dsimp only [ρ,ς,ν]
    have a1 := (fr.below acc).ra.cell1
    have a2 := (fr.below acc).ra.cell2
    have c1 := (fr.below acc).rb.cell1
    have c2 := (fr.below acc).rb.cell2
    have e0 := h7.cell0
    have e1 := h7.cell1
    have f0 := h7.free 0
    have f1 := h7.free 1
    refine wpAnyIn_ready (rs := [5]) (by kernel_rfl) (by simp) (AllReadyIn.cons rfl (fun K hK => ?_) (AllReadyIn.nil))
    · go_simp
      gi_wp2_with (refine ⟨trivial,?_⟩; gi_at_call 47; refine (callsIn_wide.2 (wordsOf_small 4 ⟨by decide,by decide⟩ 3 ⟨by decide,fun _ => by decide⟩ (by decide) W)).mono ?_; rintro e W2 ⟨g,rfl,hg,lg,hb⟩)
      exact U _ _ _ _ (H3 W2 (below_acc acc acc.size hb) ga (hga.below hb hga.lt) lga g hg (Nat.lt_of_lt_of_le hga.lt lg) p7 (h7.below hb h7.lt) l7 n7a (Nat.ne_of_lt (Nat.lt_of_lt_of_le h7.lt lg)))
  have H6 : ∀ (W : World) (acc : Below W1.heap.size W1 W) (ga : Nat) (hga : Arr W ga 22 .u64 [6]) (lga : W1.heap.size ≤ ga),R 4 #[Ix,Ix,Ix,Ix,Ix,Ox,Ox,Ox,Ox] { tmps := #[V0,V1,ρ q,ρ (q + 1),ρ (q + 1 + 1),ρ (q + 1 + 1 + 1),ρ (q + 1 + 1 + 1 + 1),u,u,u,u,u,V1,V13,V14,u,u,u,u,u,u,u,.pointer (some ⟨q,1,none⟩),ν 6,ς ga 1 1,.pointer (some ⟨q + 1,1,none⟩),ν 4,u,u,u,u,u,u,u,u,u,u,u,u,u,u,u,u,u,u,u,u,u,u,u,u,u,u,u,u,u,u,u,u,u,u,u,u,u,u,u,u,u,u,u,u,u,u,u,u,u,u,u,u],defers := [] } W := by
    intro W acc ga hga lga
    rw [← hR]
    dsimp only [ρ,ς,ν]
    have a1 := (fr.below acc).ra.cell1
    have a2 := (fr.below acc).ra.cell2
    have c1 := (fr.below acc).rb.cell1
    have c2 := (fr.below acc).rb.cell2
    refine wpAnyIn_ready (rs := [5,7]) (by kernel_rfl) (by simp) (AllReadyIn.cons rfl (fun K hK => ?_) (AllReadyIn.cons rfl (fun K hK => ?_) (AllReadyIn.nil)))
    · go_simp
      gi_wp2_with (refine ⟨trivial,?_⟩; gi_at_call 47; refine (callsIn_wide.2 (wordsOf_small 4 ⟨by decide,by decide⟩ 3 ⟨by decide,fun _ => by decide⟩ (by decide) W)).mono ?_; rintro e W2 ⟨g,rfl,hg,lg,hb⟩)
      exact U _ _ _ _ (H4 W2 (below_acc acc acc.size hb) ga (hga.below hb hga.lt) lga g hg (Nat.lt_of_lt_of_le hga.lt lg))
    · go_simp; exact hK _ _ (U _ _ _ _ (H5 (W.alloc (.cells #[.slice none 0 0,.slice none 0 0] 86)) (acc.alloc acc.size _) ga (hga.alloc _) lga W.heap.size (heap_new W _ _ rfl) acc.size (Nat.ne_of_gt hga.lt)))
  have H7 : ∀ (W : World) (acc : Below W1.heap.size W1 W) (ga : Nat) (hga : Arr W ga 22 .u64 [6]) (lga : W1.heap.size ≤ ga) (p7 : Nat) (h7 : EBox W p7 (.slice none 0 0) (.slice none 0 0)) (l7 : W1.heap.size ≤ p7) (n7a : p7 ≠ ga),R 4 #[Ix,Ix,Ix,Ix,Ox,Ox,Ox,Ix,Ox] { tmps := #[V0,V1,ρ q,ρ (q + 1),ρ (q + 1 + 1),ρ (q + 1 + 1 + 1),ρ (q + 1 + 1 + 1 + 1),ρ p7,u,u,u,u,V1,V13,V14,u,u,u,u,u,u,u,.pointer (some ⟨q,1,none⟩),ν 6,ς ga 1 1,.pointer (some ⟨q + 1,1,none⟩),u,u,u,u,u,u,u,u,u,u,u,u,u,u,u,u,u,u,u,u,u,u,u,u,u,u,u,u,u,u,u,u,u,u,u,u,u,u,u,u,u,u,u,u,u,u,u,u,u,u,u,u,u],defers := [] } W := by
    intro W acc ga hga lga p7 h7 l7 n7a
    rw [← hR]
    dsimp only [ρ,ς,ν]
    have a1 := (fr.below acc).ra.cell1
    have a2 := (fr.below acc).ra.cell2
    have c1 := (fr.below acc).rb.cell1
    have c2 := (fr.below acc).rb.cell2
    have e0 := h7.cell0
    have e1 := h7.cell1
    have f0 := h7.free 0
    have f1 := h7.free 1
    refine wpAnyIn_ready (rs := [4]) (by kernel_rfl) (by simp) (AllReadyIn.cons rfl (fun K hK => ?_) (AllReadyIn.nil))
    · go_simp; exact hK _ _ (U _ _ _ _ (H5 W acc ga hga lga p7 h7 l7 n7a))
  have H8 : ∀ (W : World) (acc : Below W1.heap.size W1 W) (ga : Nat) (hga : Arr W ga 22 .u64 [6]) (lga : W1.heap.size ≤ ga),R 5 #[Ix,Ix,Ix,Ix,Ox,Ox,Ox,Ox,Ox] { tmps := #[V0,V1,ρ q,ρ (q + 1),ρ (q + 1 + 1),ρ (q + 1 + 1 + 1),ρ (q + 1 + 1 + 1 + 1),u,u,u,u,u,V1,V13,V14,u,u,u,u,u,u,u,.pointer (some ⟨q,1,none⟩),ν 6,ς ga 1 1,.pointer (some ⟨q + 1,1,none⟩),u,u,u,u,u,u,u,u,u,u,u,u,u,u,u,u,u,u,u,u,u,u,u,u,u,u,u,u,u,u,u,u,u,u,u,u,u,u,u,u,u,u,u,u,u,u,u,u,u,u,u,u,u],defers := [] } W := by
    intro W acc ga hga lga
    rw [← hR]
    dsimp only [ρ,ς,ν]
    have a1 := (fr.below acc).ra.cell1
    have a2 := (fr.below acc).ra.cell2
    have c1 := (fr.below acc).rb.cell1
    have c2 := (fr.below acc).rb.cell2
    refine wpAnyIn_ready (rs := [4,7]) (by kernel_rfl) (by simp) (AllReadyIn.cons rfl (fun K hK => ?_) (AllReadyIn.cons rfl (fun K hK => ?_) (AllReadyIn.nil)))
    · go_simp; exact hK _ _ (U _ _ _ _ (H6 W acc ga hga lga))
    · go_simp; exact hK _ _ (U _ _ _ _ (H7 (W.alloc (.cells #[.slice none 0 0,.slice none 0 0] 86)) (acc.alloc acc.size _) ga (hga.alloc _) lga W.heap.size (heap_new W _ _ rfl) acc.size (Nat.ne_of_gt hga.lt)))
  have H9 : ∀ (W : World) (acc : Below W1.heap.size W1 W) (ga : Nat) (hga : Arr W ga 22 .u64 [6]) (lga : W1.heap.size ≤ ga) (p7 : Nat) (h7 : EBox W p7 (.slice none 0 0) (.slice none 0 0)) (l7 : W1.heap.size ≤ p7) (n7a : p7 ≠ ga),R 5 #[Ix,Ix,Ix,Ox,Ox,Ox,Ox,Ix,Ox] { tmps := #[V0,V1,ρ q,ρ (q + 1),ρ (q + 1 + 1),ρ (q + 1 + 1 + 1),ρ (q + 1 + 1 + 1 + 1),ρ p7,u,u,u,u,V1,V13,V14,u,u,u,u,u,u,u,.pointer (some ⟨q,1,none⟩),ν 6,ς ga 1 1,u,u,u,u,u,u,u,u,u,u,u,u,u,u,u,u,u,u,u,u,u,u,u,u,u,u,u,u,u,u,u,u,u,u,u,u,u,u,u,u,u,u,u,u,u,u,u,u,u,u,u,u,u,u],defers := [] } W := by
    intro W acc ga hga lga p7 h7 l7 n7a
    rw [← hR]
    dsimp only [ρ,ς,ν]
    have a1 := (fr.below acc).ra.cell1
    have a2 := (fr.below acc).ra.cell2
    have c1 := (fr.below acc).rb.cell1
    have c2 := (fr.below acc).rb.cell2
    have e0 := h7.cell0
    have e1 := h7.cell1
    have f0 := h7.free 0
    have f1 := h7.free 1
    refine wpAnyIn_ready (rs := [3]) (by kernel_rfl) (by simp) (AllReadyIn.cons rfl (fun K hK => ?_) (AllReadyIn.nil))
    · go_simp; exact hK _ _ (U _ _ _ _ (H7 W acc ga hga lga p7 h7 l7 n7a))
  have H10 : ∀ (W : World) (acc : Below W1.heap.size W1 W) (ga : Nat) (hga : Arr W ga 22 .u64 [6]) (lga : W1.heap.size ≤ ga),R 6 #[Ix,Ix,Ix,Ox,Ox,Ox,Ox,Ox,Ox] { tmps := #[V0,V1,ρ q,ρ (q + 1),ρ (q + 1 + 1),ρ (q + 1 + 1 + 1),ρ (q + 1 + 1 + 1 + 1),u,u,u,u,u,V1,V13,V14,u,u,u,u,u,u,u,.pointer (some ⟨q,1,none⟩),ν 6,ς ga 1 1,u,u,u,u,u,u,u,u,u,u,u,u,u,u,u,u,u,u,u,u,u,u,u,u,u,u,u,u,u,u,u,u,u,u,u,u,u,u,u,u,u,u,u,u,u,u,u,u,u,u,u,u,u,u],defers := [] } W := by
    intro W acc ga hga lga
    rw [← hR]
    dsimp only [ρ,ς,ν]
    have a1 := (fr.below acc).ra.cell1
    have a2 := (fr.below acc).ra.cell2
    have c1 := (fr.below acc).rb.cell1
    have c2 := (fr.below acc).rb.cell2
    refine wpAnyIn_ready (rs := [3,7]) (by kernel_rfl) (by simp) (AllReadyIn.cons rfl (fun K hK => ?_) (AllReadyIn.cons rfl (fun K hK => ?_) (AllReadyIn.nil)))
    · go_simp; exact hK _ _ (U _ _ _ _ (H8 W acc ga hga lga))
    · go_simp; exact hK _ _ (U _ _ _ _ (H9 (W.alloc (.cells #[.slice none 0 0,.slice none 0 0] 86)) (acc.alloc acc.size _) ga (hga.alloc _) lga W.heap.size (heap_new W _ _ rfl) acc.size (Nat.ne_of_gt hga.lt)))
  have H11 : ∀ (W : World) (acc : Below W1.heap.size W1 W) (p7 : Nat) (h7 : EBox W p7 (.slice none 0 0) (.slice none 0 0)) (l7 : W1.heap.size ≤ p7),R 4 #[Ix,Ix,Ox,Ix,Ix,Ox,Ox,Ix,Ox] { tmps := #[V0,V1,ρ q,ρ (q + 1),ρ (q + 1 + 1),ρ (q + 1 + 1 + 1),ρ (q + 1 + 1 + 1 + 1),ρ p7,u,u,u,u,V1,V13,V14,u,u,u,u,u,u,u,.pointer (some ⟨q,1,none⟩),ν 6,u,.pointer (some ⟨q + 1,1,none⟩),ν 4,u,u,u,u,u,u,u,u,u,u,u,u,u,u,u,u,u,u,u,u,u,u,u,u,u,u,u,u,u,u,u,u,u,u,u,u,u,u,u,u,u,u,u,u,u,u,u,u,u,u,u,u],defers := [] } W := by
    intro W acc p7 h7 l7
    rw [← hR]
    dsimp only [ρ,ν]
    have a1 := (fr.below acc).ra.cell1
    have a2 := (fr.below acc).ra.cell2
    have c1 := (fr.below acc).rb.cell1
    have c2 := (fr.below acc).rb.cell2
    have e0 := h7.cell0
    have e1 := h7.cell1
    have f0 := h7.free 0
    have f1 := h7.free 1
    refine wpAnyIn_ready (rs := [2]) (by kernel_rfl) (by simp) (AllReadyIn.cons rfl (fun K hK => ?_) (AllReadyIn.nil))
    · go_simp
      gi_wp2_with (refine ⟨trivial,?_⟩; gi_at_call 47; refine (callsIn_wide.2 (wordsOf_small 6 ⟨by decide,by decide⟩ 3 ⟨by decide,fun _ => by decide⟩ (by decide) W)).mono ?_; rintro e W2 ⟨g,rfl,hg,lg,hb⟩)
      exact U _ _ _ _ (H5 W2 (below_acc acc acc.size hb) g hg (Nat.le_trans acc.size lg) p7 (h7.below hb h7.lt) l7 (Nat.ne_of_lt (Nat.lt_of_lt_of_le h7.lt lg)))
  have H12 : ∀ (W : World) (acc : Below W1.heap.size W1 W),R 5 #[Ix,Ix,Ox,Ix,Ix,Ox,Ox,Ox,Ox] { tmps := #[V0,V1,ρ q,ρ (q + 1),ρ (q + 1 + 1),ρ (q + 1 + 1 + 1),ρ (q + 1 + 1 + 1 + 1),u,u,u,u,u,V1,V13,V14,u,u,u,u,u,u,u,.pointer (some ⟨q,1,none⟩),ν 6,u,.pointer (some ⟨q + 1,1,none⟩),ν 4,u,u,u,u,u,u,u,u,u,u,u,u,u,u,u,u,u,u,u,u,u,u,u,u,u,u,u,u,u,u,u,u,u,u,u,u,u,u,u,u,u,u,u,u,u,u,u,u,u,u,u,u],defers := [] } W := by
    intro W acc
    rw [← hR]
    dsimp only [ρ,ν]
    have a1 := (fr.below acc).ra.cell1
    have a2 := (fr.below acc).ra.cell2
    have c1 := (fr.below acc).rb.cell1
    have c2 := (fr.below acc).rb.cell2
    refine wpAnyIn_ready (rs := [2,7]) (by kernel_rfl) (by simp) (AllReadyIn.cons rfl (fun K hK => ?_) (AllReadyIn.cons rfl (fun K hK => ?_) (AllReadyIn.nil)))
    · go_simp
      gi_wp2_with (refine ⟨trivial,?_⟩; gi_at_call 47; refine (callsIn_wide.2 (wordsOf_small 6 ⟨by decide,by decide⟩ 3 ⟨by decide,fun _ => by decide⟩ (by decide) W)).mono ?_; rintro e W2 ⟨g,rfl,hg,lg,hb⟩)
      exact U _ _ _ _ (H6 W2 (below_acc acc acc.size hb) g hg (Nat.le_trans acc.size lg))
    · go_simp; exact hK _ _ (U _ _ _ _ (H11 (W.alloc (.cells #[.slice none 0 0,.slice none 0 0] 86)) (acc.alloc acc.size _) W.heap.size (heap_new W _ _ rfl) acc.size))
  have H13 : ∀ (W : World) (acc : Below W1.heap.size W1 W) (p7 : Nat) (h7 : EBox W p7 (.slice none 0 0) (.slice none 0 0)) (l7 : W1.heap.size ≤ p7),R 5 #[Ix,Ix,Ox,Ix,Ox,Ox,Ox,Ix,Ox] { tmps := #[V0,V1,ρ q,ρ (q + 1),ρ (q + 1 + 1),ρ (q + 1 + 1 + 1),ρ (q + 1 + 1 + 1 + 1),ρ p7,u,u,u,u,V1,V13,V14,u,u,u,u,u,u,u,.pointer (some ⟨q,1,none⟩),ν 6,u,.pointer (some ⟨q + 1,1,none⟩),u,u,u,u,u,u,u,u,u,u,u,u,u,u,u,u,u,u,u,u,u,u,u,u,u,u,u,u,u,u,u,u,u,u,u,u,u,u,u,u,u,u,u,u,u,u,u,u,u,u,u,u,u],defers := [] } W := by
    intro W acc p7 h7 l7
    rw [← hR]
    dsimp only [ρ,ν]
    have a1 := (fr.below acc).ra.cell1
    have a2 := (fr.below acc).ra.cell2
    have c1 := (fr.below acc).rb.cell1
    have c2 := (fr.below acc).rb.cell2
    have e0 := h7.cell0
    have e1 := h7.cell1
    have f0 := h7.free 0
    have f1 := h7.free 1
    refine wpAnyIn_ready (rs := [2,4]) (by kernel_rfl) (by simp) (AllReadyIn.cons rfl (fun K hK => ?_) (AllReadyIn.cons rfl (fun K hK => ?_) (AllReadyIn.nil)))
    · go_simp
      gi_wp2_with (refine ⟨trivial,?_⟩; gi_at_call 47; refine (callsIn_wide.2 (wordsOf_small 6 ⟨by decide,by decide⟩ 3 ⟨by decide,fun _ => by decide⟩ (by decide) W)).mono ?_; rintro e W2 ⟨g,rfl,hg,lg,hb⟩)
      exact U _ _ _ _ (H7 W2 (below_acc acc acc.size hb) g hg (Nat.le_trans acc.size lg) p7 (h7.below hb h7.lt) l7 (Nat.ne_of_lt (Nat.lt_of_lt_of_le h7.lt lg)))
    · go_simp; exact hK _ _ (U _ _ _ _ (H11 W acc p7 h7 l7))
  have H14 : ∀ (W : World) (acc : Below W1.heap.size W1 W),R 6 #[Ix,Ix,Ox,Ix,Ox,Ox,Ox,Ox,Ox] { tmps := #[V0,V1,ρ q,ρ (q + 1),ρ (q + 1 + 1),ρ (q + 1 + 1 + 1),ρ (q + 1 + 1 + 1 + 1),u,u,u,u,u,V1,V13,V14,u,u,u,u,u,u,u,.pointer (some ⟨q,1,none⟩),ν 6,u,.pointer (some ⟨q + 1,1,none⟩),u,u,u,u,u,u,u,u,u,u,u,u,u,u,u,u,u,u,u,u,u,u,u,u,u,u,u,u,u,u,u,u,u,u,u,u,u,u,u,u,u,u,u,u,u,u,u,u,u,u,u,u,u],defers := [] } W := by
    intro W acc
    rw [← hR]
    dsimp only [ρ,ν]
    have a1 := (fr.below acc).ra.cell1
    have a2 := (fr.below acc).ra.cell2
    have c1 := (fr.below acc).rb.cell1
    have c2 := (fr.below acc).rb.cell2
    refine wpAnyIn_ready (rs := [2,4,7]) (by kernel_rfl) (by simp) (AllReadyIn.cons rfl (fun K hK => ?_) (AllReadyIn.cons rfl (fun K hK => ?_) (AllReadyIn.cons rfl (fun K hK => ?_) (AllReadyIn.nil))))
    · go_simp
      gi_wp2_with (refine ⟨trivial,?_⟩; gi_at_call 47; refine (callsIn_wide.2 (wordsOf_small 6 ⟨by decide,by decide⟩ 3 ⟨by decide,fun _ => by decide⟩ (by decide) W)).mono ?_; rintro e W2 ⟨g,rfl,hg,lg,hb⟩)
      exact U _ _ _ _ (H8 W2 (below_acc acc acc.size hb) g hg (Nat.le_trans acc.size lg))
    · go_simp; exact hK _ _ (U _ _ _ _ (H12 W acc))
    · go_simp; exact hK _ _ (U _ _ _ _ (H13 (W.alloc (.cells #[.slice none 0 0,.slice none 0 0] 86)) (acc.alloc acc.size _) W.heap.size (heap_new W _ _ rfl) acc.size))
  have H15 : ∀ (W : World) (acc : Below W1.heap.size W1 W) (p7 : Nat) (h7 : EBox W p7 (.slice none 0 0) (.slice none 0 0)) (l7 : W1.heap.size ≤ p7),R 6 #[Ix,Ix,Ox,Ox,Ox,Ox,Ox,Ix,Ox] { tmps := #[V0,V1,ρ q,ρ (q + 1),ρ (q + 1 + 1),ρ (q + 1 + 1 + 1),ρ (q + 1 + 1 + 1 + 1),ρ p7,u,u,u,u,V1,V13,V14,u,u,u,u,u,u,u,.pointer (some ⟨q,1,none⟩),ν 6,u,u,u,u,u,u,u,u,u,u,u,u,u,u,u,u,u,u,u,u,u,u,u,u,u,u,u,u,u,u,u,u,u,u,u,u,u,u,u,u,u,u,u,u,u,u,u,u,u,u,u,u,u,u,u],defers := [] } W := by
    intro W acc p7 h7 l7
    rw [← hR]
    dsimp only [ρ,ν]
    have a1 := (fr.below acc).ra.cell1
    have a2 := (fr.below acc).ra.cell2
    have c1 := (fr.below acc).rb.cell1
    have c2 := (fr.below acc).rb.cell2
    have e0 := h7.cell0
    have e1 := h7.cell1
    have f0 := h7.free 0
    have f1 := h7.free 1
    refine wpAnyIn_ready (rs := [2,3]) (by kernel_rfl) (by simp) (AllReadyIn.cons rfl (fun K hK => ?_) (AllReadyIn.cons rfl (fun K hK => ?_) (AllReadyIn.nil)))
    · go_simp
      gi_wp2_with (refine ⟨trivial,?_⟩; gi_at_call 47; refine (callsIn_wide.2 (wordsOf_small 6 ⟨by decide,by decide⟩ 3 ⟨by decide,fun _ => by decide⟩ (by decide) W)).mono ?_; rintro e W2 ⟨g,rfl,hg,lg,hb⟩)
      exact U _ _ _ _ (H9 W2 (below_acc acc acc.size hb) g hg (Nat.le_trans acc.size lg) p7 (h7.below hb h7.lt) l7 (Nat.ne_of_lt (Nat.lt_of_lt_of_le h7.lt lg)))
    · go_simp; exact hK _ _ (U _ _ _ _ (H13 W acc p7 h7 l7))
  have H16 : ∀ (W : World) (acc : Below W1.heap.size W1 W),R 7 #[Ix,Ix,Ox,Ox,Ox,Ox,Ox,Ox,Ox] { tmps := #[V0,V1,ρ q,ρ (q + 1),ρ (q + 1 + 1),ρ (q + 1 + 1 + 1),ρ (q + 1 + 1 + 1 + 1),u,u,u,u,u,V1,V13,V14,u,u,u,u,u,u,u,.pointer (some ⟨q,1,none⟩),ν 6,u,u,u,u,u,u,u,u,u,u,u,u,u,u,u,u,u,u,u,u,u,u,u,u,u,u,u,u,u,u,u,u,u,u,u,u,u,u,u,u,u,u,u,u,u,u,u,u,u,u,u,u,u,u,u],defers := [] } W := by
    intro W acc
    rw [← hR]
    dsimp only [ρ,ν]
    have a1 := (fr.below acc).ra.cell1
    have a2 := (fr.below acc).ra.cell2
    have c1 := (fr.below acc).rb.cell1
    have c2 := (fr.below acc).rb.cell2
    refine wpAnyIn_ready (rs := [2,3,7]) (by kernel_rfl) (by simp) (AllReadyIn.cons rfl (fun K hK => ?_) (AllReadyIn.cons rfl (fun K hK => ?_) (AllReadyIn.cons rfl (fun K hK => ?_) (AllReadyIn.nil))))
    · go_simp
      gi_wp2_with (refine ⟨trivial,?_⟩; gi_at_call 47; refine (callsIn_wide.2 (wordsOf_small 6 ⟨by decide,by decide⟩ 3 ⟨by decide,fun _ => by decide⟩ (by decide) W)).mono ?_; rintro e W2 ⟨g,rfl,hg,lg,hb⟩)
      exact U _ _ _ _ (H10 W2 (below_acc acc acc.size hb) g hg (Nat.le_trans acc.size lg))
    · go_simp; exact hK _ _ (U _ _ _ _ (H14 W acc))
    · go_simp; exact hK _ _ (U _ _ _ _ (H15 (W.alloc (.cells #[.slice none 0 0,.slice none 0 0] 86)) (acc.alloc acc.size _) W.heap.size (heap_new W _ _ rfl) acc.size))
  have H17 : ∀ (W : World) (acc : Below W1.heap.size W1 W) (p7 : Nat) (h7 : EBox W p7 (.slice none 0 0) (.slice none 0 0)) (l7 : W1.heap.size ≤ p7),R 5 #[Ix,Ox,Ox,Ix,Ix,Ox,Ox,Ix,Ox] { tmps := #[V0,V1,ρ q,ρ (q + 1),ρ (q + 1 + 1),ρ (q + 1 + 1 + 1),ρ (q + 1 + 1 + 1 + 1),ρ p7,u,u,u,u,V1,V13,V14,u,u,u,u,u,u,u,.pointer (some ⟨q,1,none⟩),u,u,.pointer (some ⟨q + 1,1,none⟩),ν 4,u,u,u,u,u,u,u,u,u,u,u,u,u,u,u,u,u,u,u,u,u,u,u,u,u,u,u,u,u,u,u,u,u,u,u,u,u,u,u,u,u,u,u,u,u,u,u,u,u,u,u,u],defers := [] } W := by
    intro W acc p7 h7 l7
    rw [← hR]
    dsimp only [ρ,ν]
    have a1 := (fr.below acc).ra.cell1
    have a2 := (fr.below acc).ra.cell2
    have c1 := (fr.below acc).rb.cell1
    have c2 := (fr.below acc).rb.cell2
    have e0 := h7.cell0
    have e1 := h7.cell1
    have f0 := h7.free 0
    have f1 := h7.free 1
    refine wpAnyIn_ready (rs := [1]) (by kernel_rfl) (by simp) (AllReadyIn.cons rfl (fun K hK => ?_) (AllReadyIn.nil))
    · go_simp; exact hK _ _ (U _ _ _ _ (H11 W acc p7 h7 l7))
  have H18 : ∀ (W : World) (acc : Below W1.heap.size W1 W),R 6 #[Ix,Ox,Ox,Ix,Ix,Ox,Ox,Ox,Ox] { tmps := #[V0,V1,ρ q,ρ (q + 1),ρ (q + 1 + 1),ρ (q + 1 + 1 + 1),ρ (q + 1 + 1 + 1 + 1),u,u,u,u,u,V1,V13,V14,u,u,u,u,u,u,u,.pointer (some ⟨q,1,none⟩),u,u,.pointer (some ⟨q + 1,1,none⟩),ν 4,u,u,u,u,u,u,u,u,u,u,u,u,u,u,u,u,u,u,u,u,u,u,u,u,u,u,u,u,u,u,u,u,u,u,u,u,u,u,u,u,u,u,u,u,u,u,u,u,u,u,u,u],defers := [] } W := by
    intro W acc
    rw [← hR]
    dsimp only [ρ,ν]
    have a1 := (fr.below acc).ra.cell1
    have a2 := (fr.below acc).ra.cell2
    have c1 := (fr.below acc).rb.cell1
    have c2 := (fr.below acc).rb.cell2
    refine wpAnyIn_ready (rs := [1,7]) (by kernel_rfl) (by simp) (AllReadyIn.cons rfl (fun K hK => ?_) (AllReadyIn.cons rfl (fun K hK => ?_) (AllReadyIn.nil)))
    · go_simp; exact hK _ _ (U _ _ _ _ (H12 W acc))
    · go_simp; exact hK _ _ (U _ _ _ _ (H17 (W.alloc (.cells #[.slice none 0 0,.slice none 0 0] 86)) (acc.alloc acc.size _) W.heap.size (heap_new W _ _ rfl) acc.size))
  have H19 : ∀ (W : World) (acc : Below W1.heap.size W1 W) (p7 : Nat) (h7 : EBox W p7 (.slice none 0 0) (.slice none 0 0)) (l7 : W1.heap.size ≤ p7),R 6 #[Ix,Ox,Ox,Ix,Ox,Ox,Ox,Ix,Ox] { tmps := #[V0,V1,ρ q,ρ (q + 1),ρ (q + 1 + 1),ρ (q + 1 + 1 + 1),ρ (q + 1 + 1 + 1 + 1),ρ p7,u,u,u,u,V1,V13,V14,u,u,u,u,u,u,u,.pointer (some ⟨q,1,none⟩),u,u,.pointer (some ⟨q + 1,1,none⟩),u,u,u,u,u,u,u,u,u,u,u,u,u,u,u,u,u,u,u,u,u,u,u,u,u,u,u,u,u,u,u,u,u,u,u,u,u,u,u,u,u,u,u,u,u,u,u,u,u,u,u,u,u],defers := [] } W := by
    intro W acc p7 h7 l7
    rw [← hR]
    dsimp only [ρ]
    have a1 := (fr.below acc).ra.cell1
    have a2 := (fr.below acc).ra.cell2
    have c1 := (fr.below acc).rb.cell1
    have c2 := (fr.below acc).rb.cell2
    have e0 := h7.cell0
    have e1 := h7.cell1
    have f0 := h7.free 0
    have f1 := h7.free 1
    refine wpAnyIn_ready (rs := [1,4]) (by kernel_rfl) (by simp) (AllReadyIn.cons rfl (fun K hK => ?_) (AllReadyIn.cons rfl (fun K hK => ?_) (AllReadyIn.nil)))
    · go_simp; exact hK _ _ (U _ _ _ _ (H13 W acc p7 h7 l7))
    · go_simp; exact hK _ _ (U _ _ _ _ (H17 W acc p7 h7 l7))
  have H20 : ∀ (W : World) (acc : Below W1.heap.size W1 W),R 7 #[Ix,Ox,Ox,Ix,Ox,Ox,Ox,Ox,Ox] { tmps := #[V0,V1,ρ q,ρ (q + 1),ρ (q + 1 + 1),ρ (q + 1 + 1 + 1),ρ (q + 1 + 1 + 1 + 1),u,u,u,u,u,V1,V13,V14,u,u,u,u,u,u,u,.pointer (some ⟨q,1,none⟩),u,u,.pointer (some ⟨q + 1,1,none⟩),u,u,u,u,u,u,u,u,u,u,u,u,u,u,u,u,u,u,u,u,u,u,u,u,u,u,u,u,u,u,u,u,u,u,u,u,u,u,u,u,u,u,u,u,u,u,u,u,u,u,u,u,u],defers := [] } W := by
    intro W acc
    rw [← hR]
    dsimp only [ρ]
    have a1 := (fr.below acc).ra.cell1
    have a2 := (fr.below acc).ra.cell2
    have c1 := (fr.below acc).rb.cell1
    have c2 := (fr.below acc).rb.cell2
    refine wpAnyIn_ready (rs := [1,4,7]) (by kernel_rfl) (by simp) (AllReadyIn.cons rfl (fun K hK => ?_) (AllReadyIn.cons rfl (fun K hK => ?_) (AllReadyIn.cons rfl (fun K hK => ?_) (AllReadyIn.nil))))
    · go_simp; exact hK _ _ (U _ _ _ _ (H14 W acc))
    · go_simp; exact hK _ _ (U _ _ _ _ (H18 W acc))
    · go_simp; exact hK _ _ (U _ _ _ _ (H19 (W.alloc (.cells #[.slice none 0 0,.slice none 0 0] 86)) (acc.alloc acc.size _) W.heap.size (heap_new W _ _ rfl) acc.size))
  have H21 : ∀ (W : World) (acc : Below W1.heap.size W1 W) (p7 : Nat) (h7 : EBox W p7 (.slice none 0 0) (.slice none 0 0)) (l7 : W1.heap.size ≤ p7),R 7 #[Ix,Ox,Ox,Ox,Ox,Ox,Ox,Ix,Ox] { tmps := #[V0,V1,ρ q,ρ (q + 1),ρ (q + 1 + 1),ρ (q + 1 + 1 + 1),ρ (q + 1 + 1 + 1 + 1),ρ p7,u,u,u,u,V1,V13,V14,u,u,u,u,u,u,u,.pointer (some ⟨q,1,none⟩),u,u,u,u,u,u,u,u,u,u,u,u,u,u,u,u,u,u,u,u,u,u,u,u,u,u,u,u,u,u,u,u,u,u,u,u,u,u,u,u,u,u,u,u,u,u,u,u,u,u,u,u,u,u,u,u],defers := [] } W := by
    intro W acc p7 h7 l7
    rw [← hR]
    dsimp only [ρ]
    have a1 := (fr.below acc).ra.cell1
    have a2 := (fr.below acc).ra.cell2
    have c1 := (fr.below acc).rb.cell1
    have c2 := (fr.below acc).rb.cell2
    have e0 := h7.cell0
    have e1 := h7.cell1
    have f0 := h7.free 0
    have f1 := h7.free 1
    refine wpAnyIn_ready (rs := [1,3]) (by kernel_rfl) (by simp) (AllReadyIn.cons rfl (fun K hK => ?_) (AllReadyIn.cons rfl (fun K hK => ?_) (AllReadyIn.nil)))
    · go_simp; exact hK _ _ (U _ _ _ _ (H15 W acc p7 h7 l7))
    · go_simp; exact hK _ _ (U _ _ _ _ (H19 W acc p7 h7 l7))
  have H22 : ∀ (W : World) (acc : Below W1.heap.size W1 W),R 8 #[Ix,Ox,Ox,Ox,Ox,Ox,Ox,Ox,Ox] { tmps := #[V0,V1,ρ q,ρ (q + 1),ρ (q + 1 + 1),ρ (q + 1 + 1 + 1),ρ (q + 1 + 1 + 1 + 1),u,u,u,u,u,V1,V13,V14,u,u,u,u,u,u,u,.pointer (some ⟨q,1,none⟩),u,u,u,u,u,u,u,u,u,u,u,u,u,u,u,u,u,u,u,u,u,u,u,u,u,u,u,u,u,u,u,u,u,u,u,u,u,u,u,u,u,u,u,u,u,u,u,u,u,u,u,u,u,u,u,u],defers := [] } W := by
    intro W acc
    rw [← hR]
    dsimp only [ρ]
    have a1 := (fr.below acc).ra.cell1
    have a2 := (fr.below acc).ra.cell2
    have c1 := (fr.below acc).rb.cell1
    have c2 := (fr.below acc).rb.cell2
    refine wpAnyIn_ready (rs := [1,3,7]) (by kernel_rfl) (by simp) (AllReadyIn.cons rfl (fun K hK => ?_) (AllReadyIn.cons rfl (fun K hK => ?_) (AllReadyIn.cons rfl (fun K hK => ?_) (AllReadyIn.nil))))
    · go_simp; exact hK _ _ (U _ _ _ _ (H16 W acc))
    · go_simp; exact hK _ _ (U _ _ _ _ (H20 W acc))
    · go_simp; exact hK _ _ (U _ _ _ _ (H21 (W.alloc (.cells #[.slice none 0 0,.slice none 0 0] 86)) (acc.alloc acc.size _) W.heap.size (heap_new W _ _ rfl) acc.size))
  have H23 : ∀ (W : World) (acc : Below W1.heap.size W1 W) (p7 : Nat) (h7 : EBox W p7 (.slice none 0 0) (.slice none 0 0)) (l7 : W1.heap.size ≤ p7),R 6 #[Ox,Ox,Ox,Ix,Ix,Ox,Ox,Ix,Ox] { tmps := #[V0,V1,ρ q,ρ (q + 1),ρ (q + 1 + 1),ρ (q + 1 + 1 + 1),ρ (q + 1 + 1 + 1 + 1),ρ p7,u,u,u,u,V1,V13,V14,u,u,u,u,u,u,u,u,u,u,.pointer (some ⟨q + 1,1,none⟩),ν 4,u,u,u,u,u,u,u,u,u,u,u,u,u,u,u,u,u,u,u,u,u,u,u,u,u,u,u,u,u,u,u,u,u,u,u,u,u,u,u,u,u,u,u,u,u,u,u,u,u,u,u,u],defers := [] } W := by
    intro W acc p7 h7 l7
    rw [← hR]
    dsimp only [ρ,ν]
    have a1 := (fr.below acc).ra.cell1
    have a2 := (fr.below acc).ra.cell2
    have c1 := (fr.below acc).rb.cell1
    have c2 := (fr.below acc).rb.cell2
    have e0 := h7.cell0
    have e1 := h7.cell1
    have f0 := h7.free 0
    have f1 := h7.free 1
    refine wpAnyIn_ready (rs := [0]) (by kernel_rfl) (by simp) (AllReadyIn.cons rfl (fun K hK => ?_) (AllReadyIn.nil))
    · go_simp; exact hK _ _ (U _ _ _ _ (H17 W acc p7 h7 l7))
  have H24 : ∀ (W : World) (acc : Below W1.heap.size W1 W),R 7 #[Ox,Ox,Ox,Ix,Ix,Ox,Ox,Ox,Ox] { tmps := #[V0,V1,ρ q,ρ (q + 1),ρ (q + 1 + 1),ρ (q + 1 + 1 + 1),ρ (q + 1 + 1 + 1 + 1),u,u,u,u,u,V1,V13,V14,u,u,u,u,u,u,u,u,u,u,.pointer (some ⟨q + 1,1,none⟩),ν 4,u,u,u,u,u,u,u,u,u,u,u,u,u,u,u,u,u,u,u,u,u,u,u,u,u,u,u,u,u,u,u,u,u,u,u,u,u,u,u,u,u,u,u,u,u,u,u,u,u,u,u,u],defers := [] } W := by
    intro W acc
    rw [← hR]
    dsimp only [ρ,ν]
    have a1 := (fr.below acc).ra.cell1
    have a2 := (fr.below acc).ra.cell2
    have c1 := (fr.below acc).rb.cell1
    have c2 := (fr.below acc).rb.cell2
    refine wpAnyIn_ready (rs := [0,7]) (by kernel_rfl) (by simp) (AllReadyIn.cons rfl (fun K hK => ?_) (AllReadyIn.cons rfl (fun K hK => ?_) (AllReadyIn.nil)))
    · go_simp; exact hK _ _ (U _ _ _ _ (H18 W acc))
    · go_simp; exact hK _ _ (U _ _ _ _ (H23 (W.alloc (.cells #[.slice none 0 0,.slice none 0 0] 86)) (acc.alloc acc.size _) W.heap.size (heap_new W _ _ rfl) acc.size))
  have H25 : ∀ (W : World) (acc : Below W1.heap.size W1 W) (p7 : Nat) (h7 : EBox W p7 (.slice none 0 0) (.slice none 0 0)) (l7 : W1.heap.size ≤ p7),R 7 #[Ox,Ox,Ox,Ix,Ox,Ox,Ox,Ix,Ox] { tmps := #[V0,V1,ρ q,ρ (q + 1),ρ (q + 1 + 1),ρ (q + 1 + 1 + 1),ρ (q + 1 + 1 + 1 + 1),ρ p7,u,u,u,u,V1,V13,V14,u,u,u,u,u,u,u,u,u,u,.pointer (some ⟨q + 1,1,none⟩),u,u,u,u,u,u,u,u,u,u,u,u,u,u,u,u,u,u,u,u,u,u,u,u,u,u,u,u,u,u,u,u,u,u,u,u,u,u,u,u,u,u,u,u,u,u,u,u,u,u,u,u,u],defers := [] } W := by
    intro W acc p7 h7 l7
    rw [← hR]
    dsimp only [ρ]
    have a1 := (fr.below acc).ra.cell1
    have a2 := (fr.below acc).ra.cell2
    have c1 := (fr.below acc).rb.cell1
    have c2 := (fr.below acc).rb.cell2
    have e0 := h7.cell0
    have e1 := h7.cell1
    have f0 := h7.free 0
    have f1 := h7.free 1
    refine wpAnyIn_ready (rs := [0,4]) (by kernel_rfl) (by simp) (AllReadyIn.cons rfl (fun K hK => ?_) (AllReadyIn.cons rfl (fun K hK => ?_) (AllReadyIn.nil)))
    · go_simp; exact hK _ _ (U _ _ _ _ (H19 W acc p7 h7 l7))
    · go_simp; exact hK _ _ (U _ _ _ _ (H23 W acc p7 h7 l7))
  have H26 : ∀ (W : World) (acc : Below W1.heap.size W1 W),R 8 #[Ox,Ox,Ox,Ix,Ox,Ox,Ox,Ox,Ox] { tmps := #[V0,V1,ρ q,ρ (q + 1),ρ (q + 1 + 1),ρ (q + 1 + 1 + 1),ρ (q + 1 + 1 + 1 + 1),u,u,u,u,u,V1,V13,V14,u,u,u,u,u,u,u,u,u,u,.pointer (some ⟨q + 1,1,none⟩),u,u,u,u,u,u,u,u,u,u,u,u,u,u,u,u,u,u,u,u,u,u,u,u,u,u,u,u,u,u,u,u,u,u,u,u,u,u,u,u,u,u,u,u,u,u,u,u,u,u,u,u,u],defers := [] } W := by
    intro W acc
    rw [← hR]
    dsimp only [ρ]
    have a1 := (fr.below acc).ra.cell1
    have a2 := (fr.below acc).ra.cell2
    have c1 := (fr.below acc).rb.cell1
    have c2 := (fr.below acc).rb.cell2
    refine wpAnyIn_ready (rs := [0,4,7]) (by kernel_rfl) (by simp) (AllReadyIn.cons rfl (fun K hK => ?_) (AllReadyIn.cons rfl (fun K hK => ?_) (AllReadyIn.cons rfl (fun K hK => ?_) (AllReadyIn.nil))))
    · go_simp; exact hK _ _ (U _ _ _ _ (H20 W acc))
    · go_simp; exact hK _ _ (U _ _ _ _ (H24 W acc))
    · go_simp; exact hK _ _ (U _ _ _ _ (H25 (W.alloc (.cells #[.slice none 0 0,.slice none 0 0] 86)) (acc.alloc acc.size _) W.heap.size (heap_new W _ _ rfl) acc.size))
  have H27 : ∀ (W : World) (acc : Below W1.heap.size W1 W) (p7 : Nat) (h7 : EBox W p7 (.slice none 0 0) (.slice none 0 0)) (l7 : W1.heap.size ≤ p7),R 8 #[Ox,Ox,Ox,Ox,Ox,Ox,Ox,Ix,Ox] { tmps := #[V0,V1,ρ q,ρ (q + 1),ρ (q + 1 + 1),ρ (q + 1 + 1 + 1),ρ (q + 1 + 1 + 1 + 1),ρ p7,u,u,u,u,V1,V13,V14,u,u,u,u,u,u,u,u,u,u,u,u,u,u,u,u,u,u,u,u,u,u,u,u,u,u,u,u,u,u,u,u,u,u,u,u,u,u,u,u,u,u,u,u,u,u,u,u,u,u,u,u,u,u,u,u,u,u,u,u,u,u,u,u],defers := [] } W := by
    intro W acc p7 h7 l7
    rw [← hR]
    dsimp only [ρ]
    have a1 := (fr.below acc).ra.cell1
    have a2 := (fr.below acc).ra.cell2
    have c1 := (fr.below acc).rb.cell1
    have c2 := (fr.below acc).rb.cell2
    have e0 := h7.cell0
    have e1 := h7.cell1
    have f0 := h7.free 0
    have f1 := h7.free 1
    refine wpAnyIn_ready (rs := [0,3]) (by kernel_rfl) (by simp) (AllReadyIn.cons rfl (fun K hK => ?_) (AllReadyIn.cons rfl (fun K hK => ?_) (AllReadyIn.nil)))
    · go_simp; exact hK _ _ (U _ _ _ _ (H21 W acc p7 h7 l7))
    · go_simp; exact hK _ _ (U _ _ _ _ (H25 W acc p7 h7 l7))
  have H28 : ∀ (W : World) (acc : Below W1.heap.size W1 W),R 9 #[Ox,Ox,Ox,Ox,Ox,Ox,Ox,Ox,Ox] { tmps := #[V0,V1,ρ q,ρ (q + 1),ρ (q + 1 + 1),ρ (q + 1 + 1 + 1),ρ (q + 1 + 1 + 1 + 1),u,u,u,u,u,V1,V13,V14,u,u,u,u,u,u,u,u,u,u,u,u,u,u,u,u,u,u,u,u,u,u,u,u,u,u,u,u,u,u,u,u,u,u,u,u,u,u,u,u,u,u,u,u,u,u,u,u,u,u,u,u,u,u,u,u,u,u,u,u,u,u,u,u],defers := [] } W := by
    intro W acc
    rw [← hR]
    dsimp only [ρ]
    have a1 := (fr.below acc).ra.cell1
    have a2 := (fr.below acc).ra.cell2
    have c1 := (fr.below acc).rb.cell1
    have c2 := (fr.below acc).rb.cell2
    refine wpAnyIn_ready (rs := [0,3,7]) (by kernel_rfl) (by simp) (AllReadyIn.cons rfl (fun K hK => ?_) (AllReadyIn.cons rfl (fun K hK => ?_) (AllReadyIn.cons rfl (fun K hK => ?_) (AllReadyIn.nil))))
    · go_simp; exact hK _ _ (U _ _ _ _ (H22 W acc))
    · go_simp; exact hK _ _ (U _ _ _ _ (H26 W acc))
    · go_simp; exact hK _ _ (U _ _ _ _ (H27 (W.alloc (.cells #[.slice none 0 0,.slice none 0 0] 86)) (acc.alloc acc.size _) W.heap.size (heap_new W _ _ rfl) acc.size))
  exact H28 W1.drew (Below.refl _ W1).drew
end Go.Proofs.YtogildikglomkaaGreatDoor

namespace Go.Proofs.YtogildikglomkaaGreatDoor
open Go.RowKit
set_option linter.unusedVariables false

theorem text_2 (w : World) : Calls Tryz.prog 38 #[.agg #[.int .u64 2,.slice none 0 0]] w fun e w' => e = .returned (.string ⟨#[50]⟩) ∧ Below w.heap.size w w' := by
  have h : Lib.decDigits 2 = [50] := by decide +kernel
  have := text_small 2 (by decide) w
  rw [h] at this
  exact this
set_option maxRecDepth 100000 in
set_option maxHeartbeats 1000000 in
theorem itext_pos (x : Int) (t : ByteArray) (ht : ∀ W,Calls Tryz.prog 38 #[.agg #[.int .u64 x,.slice none 0 0]] W fun e w' => e = .returned (.string t) ∧ Below W.heap.size W w') (w : World) : Calls Tryz.prog 15 #[.agg #[.bool false,.int .u64 x,.slice none 0 0]] w fun e w' => e = .returned (.string t) ∧ Below w.heap.size w w' := by
  have r := Row3.new w (.bool false) (.int .u64 x) (.slice none 0 0) _ rfl
  have hb : Below w.heap.size w (w.alloc (.cells #[.bool false,.int .u64 x,.slice none 0 0] 27)) := by go_grown
  go_enter Tryz.func15,Tryz.ntmps15
  have c0 := r.cell0
  have c1 := r.cell1
  have c2 := r.cell2
  go_wp2_with fail
  refine (ht _).mono ?_
  rintro e w1 ⟨rfl,h1⟩
  go_wp2_with fail
  go_ret
  exact ⟨rfl,hb.trans (h1.mono hb.size)⟩
set_option maxRecDepth 100000 in
set_option maxHeartbeats 1000000 in
theorem itext_neg (x : Int) (y : UInt8) (ht : ∀ W,Calls Tryz.prog 38 #[.agg #[.int .u64 x,.slice none 0 0]] W fun e w' => e = .returned (.string ⟨#[y]⟩) ∧ Below W.heap.size W w') (w : World) : Calls Tryz.prog 15 #[.agg #[.bool true,.int .u64 x,.slice none 0 0]] w fun e w' => e = .returned (.string ⟨#[45,y]⟩) ∧ Below w.heap.size w w' := by
  have r := Row3.new w (.bool true) (.int .u64 x) (.slice none 0 0) _ rfl
  have hb : Below w.heap.size w (w.alloc (.cells #[.bool true,.int .u64 x,.slice none 0 0] 27)) := by go_grown
  go_enter Tryz.func15,Tryz.ntmps15
  have c0 := r.cell0
  have c1 := r.cell1
  have c2 := r.cell2
  go_wp2_with fail
  refine (ht _).mono ?_
  rintro e w1 ⟨rfl,h1⟩
  have hz : (⟨#[y]⟩ : ByteArray).size = 1 := rfl
  go_wp2_with fail
  go_ret
  exact ⟨rfl,hb.trans (h1.mono hb.size)⟩
set_option maxRecDepth 100000 in
set_option maxHeartbeats 4000000 in
theorem known2_true (w : World) : Calls Tryz.prog 14 #[] w fun e w' => e = .returned (.bool true) ∧ Below w.heap.size w w' := by
  have hBw := Below.refl w.heap.size w
  go_enter Tryz.func14,Tryz.ntmps14
  go_wp2_with fail
  refine (of_lit (-7) true 7 (by decide) (by decide) ⟨by decide,by decide⟩ w).mono ?_
  rintro e w1 ⟨rfl,hb⟩
  replace hBw := hBw.trans (hb.mono hBw.size)
  clear hb
  go_wp2_with fail
  refine (of_lit 2 false 2 (by decide) (by decide) ⟨by decide,by decide⟩ w1).mono ?_
  rintro e w2 ⟨rfl,hb⟩
  replace hBw := hBw.trans (hb.mono hBw.size)
  clear hb
  go_wp2_with fail
  refine (div_lit (-7) 2 (-4) 1 true false true false 7 2 4 1 ⟨by decide,by decide,by decide⟩ ⟨by decide,by decide,by decide⟩ (by decide) ⟨by decide,by decide,by decide,by decide⟩ ⟨by decide,by decide,by decide,by decide⟩ w2).mono ?_
  rintro e w3 ⟨rfl,hb⟩
  replace hBw := hBw.trans (hb.mono hBw.size)
  clear hb
  have hb : Below w3.heap.size w3 ((w3.alloc (.cells #[.bool true,.int .u64 4,.slice none 0 0] 27)).alloc (.cells #[.bool false,.int .u64 1,.slice none 0 0] 27)) := by go_grown
  have v1 := ((Row3.new w3 (.bool true) (.int .u64 4) (.slice none 0 0) (w3.heap.size) rfl).alloc (.cells #[.bool false,.int .u64 1,.slice none 0 0] 27))
  have v2 := (Row3.new (w3.alloc (.cells #[.bool true,.int .u64 4,.slice none 0 0] 27)) (.bool false) (.int .u64 1) (.slice none 0 0) (w3.heap.size + 1) (by simp))
  replace hBw := hBw.trans (hb.mono hBw.size)
  clear hb
  go_wp2_with fail
  generalize ((w3.alloc (.cells #[.bool true,.int .u64 4,.slice none 0 0] 27)).alloc (.cells #[.bool false,.int .u64 1,.slice none 0 0] 27)) = b1 at v1 v2 hBw ⊢
  refine (of_lit 6 false 6 (by decide) (by decide) ⟨by decide,by decide⟩ b1).mono ?_
  rintro e w4 ⟨rfl,hb⟩
  replace v1 := v1.below hb v1.lt
  replace v2 := v2.below hb v2.lt
  replace hBw := hBw.trans (hb.mono hBw.size)
  clear hb
  go_wp2_with fail
  refine (of_lit 4 false 4 (by decide) (by decide) ⟨by decide,by decide⟩ w4).mono ?_
  rintro e w5 ⟨rfl,hb⟩
  replace v1 := v1.below hb v1.lt
  replace v2 := v2.below hb v2.lt
  replace hBw := hBw.trans (hb.mono hBw.size)
  clear hb
  go_wp2_with fail
  refine (bezout_64 w5).mono ?_
  rintro e w6 ⟨rfl,hb⟩
  replace v1 := v1.below hb v1.lt
  replace v2 := v2.below hb v2.lt
  replace hBw := hBw.trans (hb.mono hBw.size)
  clear hb
  have hb : Below w6.heap.size w6 (((w6.alloc (.cells #[.bool false,.int .u64 2,.slice none 0 0] 27)).alloc (.cells #[.bool false,.int .u64 1,.slice none 0 0] 27)).alloc (.cells #[.bool true,.int .u64 1,.slice none 0 0] 27)) := by go_grown
  have v4 := (((Row3.new w6 (.bool false) (.int .u64 2) (.slice none 0 0) (w6.heap.size) rfl).alloc (.cells #[.bool false,.int .u64 1,.slice none 0 0] 27)).alloc (.cells #[.bool true,.int .u64 1,.slice none 0 0] 27))
  have v5 := ((Row3.new (w6.alloc (.cells #[.bool false,.int .u64 2,.slice none 0 0] 27)) (.bool false) (.int .u64 1) (.slice none 0 0) (w6.heap.size + 1) (by simp)).alloc (.cells #[.bool true,.int .u64 1,.slice none 0 0] 27))
  have v6 := (Row3.new ((w6.alloc (.cells #[.bool false,.int .u64 2,.slice none 0 0] 27)).alloc (.cells #[.bool false,.int .u64 1,.slice none 0 0] 27)) (.bool true) (.int .u64 1) (.slice none 0 0) (w6.heap.size + 1 + 1) (by simp))
  replace v1 := v1.below hb v1.lt
  replace v2 := v2.below hb v2.lt
  replace hBw := hBw.trans (hb.mono hBw.size)
  clear hb
  have v1_0 := v1.cell0
  have v1_1 := v1.cell1
  have v1_2 := v1.cell2
  have v2_0 := v2.cell0
  have v2_1 := v2.cell1
  have v2_2 := v2.cell2
  have v4_0 := v4.cell0
  have v4_1 := v4.cell1
  have v4_2 := v4.cell2
  have v5_0 := v5.cell0
  have v5_1 := v5.cell1
  have v5_2 := v5.cell2
  have v6_0 := v6.cell0
  have v6_1 := v6.cell1
  have v6_2 := v6.cell2
  go_wp2_with fail
  clear v1_0 v1_1 v1_2 v2_0 v2_1 v2_2 v4_0 v4_1 v4_2 v5_0 v5_1 v5_2 v6_0 v6_1 v6_2
  generalize (((w6.alloc (.cells #[.bool false,.int .u64 2,.slice none 0 0] 27)).alloc (.cells #[.bool false,.int .u64 1,.slice none 0 0] 27)).alloc (.cells #[.bool true,.int .u64 1,.slice none 0 0] 27)) = b2 at v1 v2 v4 v5 v6 hBw ⊢
  refine (itext_neg 4 52 text_4 b2).mono ?_
  rintro e t0 ⟨rfl,hb⟩
  replace v1 := v1.below hb v1.lt
  replace v2 := v2.below hb v2.lt
  replace v4 := v4.below hb v4.lt
  replace v5 := v5.below hb v5.lt
  replace v6 := v6.below hb v6.lt
  replace hBw := hBw.trans (hb.mono hBw.size)
  clear hb
  have v1_0 := v1.cell0
  have v1_1 := v1.cell1
  have v1_2 := v1.cell2
  have v2_0 := v2.cell0
  have v2_1 := v2.cell1
  have v2_2 := v2.cell2
  have v4_0 := v4.cell0
  have v4_1 := v4.cell1
  have v4_2 := v4.cell2
  have v5_0 := v5.cell0
  have v5_1 := v5.cell1
  have v5_2 := v5.cell2
  have v6_0 := v6.cell0
  have v6_1 := v6.cell1
  have v6_2 := v6.cell2
  go_wp2_with fail
  clear v1_0 v1_1 v1_2 v2_0 v2_1 v2_2 v4_0 v4_1 v4_2 v5_0 v5_1 v5_2 v6_0 v6_1 v6_2
  refine (itext_pos 1 _ text_1 t0).mono ?_
  rintro e t1 ⟨rfl,hb⟩
  replace v1 := v1.below hb v1.lt
  replace v2 := v2.below hb v2.lt
  replace v4 := v4.below hb v4.lt
  replace v5 := v5.below hb v5.lt
  replace v6 := v6.below hb v6.lt
  replace hBw := hBw.trans (hb.mono hBw.size)
  clear hb
  have v1_0 := v1.cell0
  have v1_1 := v1.cell1
  have v1_2 := v1.cell2
  have v2_0 := v2.cell0
  have v2_1 := v2.cell1
  have v2_2 := v2.cell2
  have v4_0 := v4.cell0
  have v4_1 := v4.cell1
  have v4_2 := v4.cell2
  have v5_0 := v5.cell0
  have v5_1 := v5.cell1
  have v5_2 := v5.cell2
  have v6_0 := v6.cell0
  have v6_1 := v6.cell1
  have v6_2 := v6.cell2
  go_wp2_with fail
  clear v1_0 v1_1 v1_2 v2_0 v2_1 v2_2 v4_0 v4_1 v4_2 v5_0 v5_1 v5_2 v6_0 v6_1 v6_2
  refine (itext_pos 2 _ text_2 t1).mono ?_
  rintro e t2 ⟨rfl,hb⟩
  replace v1 := v1.below hb v1.lt
  replace v2 := v2.below hb v2.lt
  replace v4 := v4.below hb v4.lt
  replace v5 := v5.below hb v5.lt
  replace v6 := v6.below hb v6.lt
  replace hBw := hBw.trans (hb.mono hBw.size)
  clear hb
  have v1_0 := v1.cell0
  have v1_1 := v1.cell1
  have v1_2 := v1.cell2
  have v2_0 := v2.cell0
  have v2_1 := v2.cell1
  have v2_2 := v2.cell2
  have v4_0 := v4.cell0
  have v4_1 := v4.cell1
  have v4_2 := v4.cell2
  have v5_0 := v5.cell0
  have v5_1 := v5.cell1
  have v5_2 := v5.cell2
  have v6_0 := v6.cell0
  have v6_1 := v6.cell1
  have v6_2 := v6.cell2
  go_wp2_with fail
  clear v1_0 v1_1 v1_2 v2_0 v2_1 v2_2 v4_0 v4_1 v4_2 v5_0 v5_1 v5_2 v6_0 v6_1 v6_2
  refine (itext_pos 1 _ text_1 t2).mono ?_
  rintro e t3 ⟨rfl,hb⟩
  replace v1 := v1.below hb v1.lt
  replace v2 := v2.below hb v2.lt
  replace v4 := v4.below hb v4.lt
  replace v5 := v5.below hb v5.lt
  replace v6 := v6.below hb v6.lt
  replace hBw := hBw.trans (hb.mono hBw.size)
  clear hb
  have v1_0 := v1.cell0
  have v1_1 := v1.cell1
  have v1_2 := v1.cell2
  have v2_0 := v2.cell0
  have v2_1 := v2.cell1
  have v2_2 := v2.cell2
  have v4_0 := v4.cell0
  have v4_1 := v4.cell1
  have v4_2 := v4.cell2
  have v5_0 := v5.cell0
  have v5_1 := v5.cell1
  have v5_2 := v5.cell2
  have v6_0 := v6.cell0
  have v6_1 := v6.cell1
  have v6_2 := v6.cell2
  go_wp2_with fail
  clear v1_0 v1_1 v1_2 v2_0 v2_1 v2_2 v4_0 v4_1 v4_2 v5_0 v5_1 v5_2 v6_0 v6_1 v6_2
  refine (itext_neg 1 49 text_1 t3).mono ?_
  rintro e t4 ⟨rfl,hb⟩
  replace v1 := v1.below hb v1.lt
  replace v2 := v2.below hb v2.lt
  replace v4 := v4.below hb v4.lt
  replace v5 := v5.below hb v5.lt
  replace v6 := v6.below hb v6.lt
  replace hBw := hBw.trans (hb.mono hBw.size)
  clear hb
  have v1_0 := v1.cell0
  have v1_1 := v1.cell1
  have v1_2 := v1.cell2
  have v2_0 := v2.cell0
  have v2_1 := v2.cell1
  have v2_2 := v2.cell2
  have v4_0 := v4.cell0
  have v4_1 := v4.cell1
  have v4_2 := v4.cell2
  have v5_0 := v5.cell0
  have v5_1 := v5.cell1
  have v5_2 := v5.cell2
  have v6_0 := v6.cell0
  have v6_1 := v6.cell1
  have v6_2 := v6.cell2
  go_wp2_with fail
  clear v1_0 v1_1 v1_2 v2_0 v2_1 v2_2 v4_0 v4_1 v4_2 v5_0 v5_1 v5_2 v6_0 v6_1 v6_2
  go_ret
  exact ⟨rfl,hBw⟩
end Go.Proofs.YtogildikglomkaaGreatDoor
