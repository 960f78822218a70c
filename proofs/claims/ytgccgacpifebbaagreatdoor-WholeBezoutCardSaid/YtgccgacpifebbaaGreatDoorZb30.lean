/- EBox GcdS -/
import Derived.Below
import Derived.Test.YtgccgacpifebbaaGreatDoorZb01
import Derived.Test.YtgccgacpifebbaaGreatDoorZb25
import Derived.Test.YtgccgacpifebbaaGreatDoorZb27
import Derived.Test.YtgccgacpifebbaaGreatDoorZb29
import Derived.Test.YtgccgacpifebbaaGreatDoorZb22
import Derived.Deep.CutBlock
namespace Go.Proofs.YtgccgacpifebbaaGreatDoor
open Go.RowKit
set_option linter.unusedVariables false
/-- Euclid's row is block e: two slices of words. -/
def EBox (w : World) (e : Nat) (u v : Value) : Prop := w.heap[e]? = some (.cells #[u,v] 68 (0,0))
section
variable {w w' : World} {e : Nat} {u v : Value}
theorem EBox.lt (h : EBox w e u v) : e < w.heap.size := (Array.getElem?_eq_some_iff.1 h).1
theorem EBox.cell0 (h : EBox w e u v) : w.cell? ⟨e,0,none⟩ = some u := by rw [cell_of_row w e 0 _ _ (0,0) h]; rfl
theorem EBox.cell1 (h : EBox w e u v) : w.cell? ⟨e,1,none⟩ = some v := by rw [cell_of_row w e 1 _ _ (0,0) h]; rfl
theorem EBox.free (h : EBox w e u v) (i : Nat) : w.frozen? ⟨e,i,none⟩ = false := frozen_of_row w e i _ _ h
theorem EBox.below {B : Nat} (h : EBox w e u v) (hb : Below B w w') (he : e < B) : EBox w' e u v := (hb.block e he).trans h
theorem EBox.set0 (h : EBox w e u v) (x : Value) : EBox (w.setCell ⟨e,0,none⟩ x) e x v := heap_setCell_same w e 0 _ _ x h
theorem EBox.set1 (h : EBox w e u v) (x : Value) : EBox (w.setCell ⟨e,1,none⟩ x) e u x := heap_setCell_same w e 1 _ _ x h
theorem EBox.other (h : EBox w e u v) {a : Addr} (ha : e ≠ a.block) (x : Value) : EBox (w.setCell a x) e u v := (heap_setCell_other w a e x ha).trans h
end
end Go.Proofs.YtgccgacpifebbaaGreatDoor
namespace Go.Proofs.YtgccgacpifebbaaGreatDoor
open Go.RowKit
set_option linter.unusedVariables false
set_option maxRecDepth 100000 in
set_option maxHeartbeats 1000000 in
theorem gcd_word (ba bb : Bool) (A B : Nat) (hA : A < 18446744073709551616) (hB : B < 18446744073709551616) (w : World) (hT : TabB w) :
    Calls Tryz.prog 17 #[.agg #[.bool ba,.int .u64 A,.slice none 0 0],.agg #[.bool bb,.int .u64 B,.slice none 0 0]] w (RetNat (Nat.gcd A B : Nat) w) := by
  have hG : Nat.gcd A B < 18446744073709551616 := by
    by_cases h : A = 0
    · subst h; rw [Nat.gcd_zero_left]; exact hB
    · exact Nat.lt_of_le_of_lt (Nat.gcd_le_left B (by omega)) hA
  obtain ⟨O,hO⟩ : ∃ O,((w.alloc (.cells #[.bool ba,.int .u64 A,.slice none 0 0] 28)).alloc (.cells #[.bool bb,.int .u64 B,.slice none 0 0] 28)).alloc (.cells #[.int .u64 0,.slice none 0 0] 26) = O := ⟨_,rfl⟩
  have b0 : Below w.heap.size w O := by subst hO; go_grown
  have ra : Row3 O w.heap.size (.bool ba) (.int .u64 A) (.slice none 0 0) := by subst hO; exact ((Row3.new w _ _ _ _ rfl).alloc _).alloc _
  have rb : Row3 O (w.heap.size + 1) (.bool bb) (.int .u64 B) (.slice none 0 0) := by subst hO; exact (Row3.new _ _ _ _ _ (by simp)).alloc _
  have v : Var O (w.heap.size + 1 + 1) (.int .u64 0) (.slice none 0 0) := by subst hO; exact Var.new _ _ _ _ _ _ (by simp)
  have c1 := ra.cell1
  have c2 := ra.cell2
  go_enter Tryz.func17,Tryz.ntmps17
  go_wp2_with fail
  clear c1 c2
  refine (small_word A O).mono ?_
  rintro e W1 ⟨rfl,b1⟩
  replace rb := rb.below b1 rb.lt
  replace v := v.below b1 v.lt
  replace b1 := below_acc b0 b0.size b1
  clear b0 hO ra
  have c1 := rb.cell1
  have c2 := rb.cell2
  go_wp2_with fail
  refine (small_word B W1).mono ?_
  rintro e W2 ⟨rfl,b2⟩
  replace v := v.below b2 v.lt
  replace b2 := below_acc b1 b1.size b2
  clear b1 rb c1 c2
  have q := gcdWords A B hA hB W2 (hT.below b2)
  obtain ⟨G,hGe⟩ : ∃ G,Nat.gcd A B = G := ⟨_,rfl⟩
  rw [hGe] at q hG
  have HG := Lib.hid hGe
  clear hGe
  go_wp2_with fail
  refine q.mono ?_
  rintro e W3 ⟨rfl,rfl⟩
  clear q
  go_wp2_with fail
  refine (of_any G W3).mono ?_
  rintro e W4 ⟨rfl,b4⟩
  replace v := v.below b4 v.lt
  replace b4 := below_acc b2 b2.size b4
  clear b2
  have c0 := v.c0
  have c1 := v.c1
  have f0 := v.free 0
  have f1 := v.free 1
  have r := v.set (.int .u64 G) none 0 0
  have hB := below_two b4 (show w.heap.size ≤ w.heap.size + 1 + 1 by omega) (.int .u64 (G : Int)) (.slice none 0 0)
  go_wp2_with fail
  exact bodyPost_var Tryz.results17 rfl rfl r (by rw [HG.out]; exact IsNat.word (n := (G : Int)) ⟨by omega,by omega⟩) hB
set_option maxRecDepth 100000 in
set_option maxHeartbeats 1000000 in
theorem gcd_zero (ba bb : Bool) (ga la ca : Nat) (A : Int) (w : World) (hn : IsNat w (.agg #[.int .u64 0,.slice (some ⟨ga,0,none⟩) la ca]) A) :
    Calls Tryz.prog 17 #[.agg #[.bool ba,.int .u64 0,.slice (some ⟨ga,0,none⟩) la ca],.agg #[.bool bb,.int .u64 0,.slice none 0 0]] w (RetNat A w) := by
  obtain ⟨O,hO⟩ : ∃ O,((w.alloc (.cells #[.bool ba,.int .u64 0,.slice (some ⟨ga,0,none⟩) la ca] 28)).alloc (.cells #[.bool bb,.int .u64 0,.slice none 0 0] 28)).alloc (.cells #[.int .u64 0,.slice none 0 0] 26) = O := ⟨_,rfl⟩
  have b0 : Below w.heap.size w O := by subst hO; go_grown
  have ra : Row3 O w.heap.size (.bool ba) (.int .u64 0) (.slice (some ⟨ga,0,none⟩) la ca) := by subst hO; exact ((Row3.new w _ _ _ _ rfl).alloc _).alloc _
  have rb : Row3 O (w.heap.size + 1) (.bool bb) (.int .u64 0) (.slice none 0 0) := by subst hO; exact (Row3.new _ _ _ _ _ (by simp)).alloc _
  have v : Var O (w.heap.size + 1 + 1) (.int .u64 0) (.slice none 0 0) := by subst hO; exact Var.new _ _ _ _ _ _ (by simp)
  replace hn := hn.below b0
  have c1 := ra.cell1
  have c2 := ra.cell2
  go_enter Tryz.func17,Tryz.ntmps17
  go_wp2_with fail
  clear c1 c2
  refine (small_many ⟨ga,0,none⟩ la ca O).mono ?_
  rintro e W1 ⟨rfl,b1⟩
  replace ra := ra.below b1 ra.lt
  replace rb := rb.below b1 rb.lt
  replace v := v.below b1 v.lt
  replace hn := hn.below b1
  replace b1 := below_acc b0 b0.size b1
  clear b0 hO
  have c1 := rb.cell1
  have c2 := rb.cell2
  go_wp2_with fail
  refine (small_word 0 W1).mono ?_
  rintro e W2 ⟨rfl,b2⟩
  clear c1 c2
  replace ra := ra.below b2 ra.lt
  replace rb := rb.below b2 rb.lt
  replace v := v.below b2 v.lt
  replace hn := hn.below b2
  replace b2 := below_acc b1 b1.size b2
  clear b1
  have a1 := ra.cell1
  have a2 := ra.cell2
  have c1 := rb.cell1
  have c2 := rb.cell2
  go_wp2_with fail
  refine (div_zero _ A W2 hn).mono ?_
  rintro e W3 ⟨rfl,b3⟩
  clear c1 c2 a1 a2
  replace ra := ra.below b3 ra.lt
  replace v := v.below b3 v.lt
  replace hn := hn.below b3
  replace b3 := below_acc b2 b2.size b3
  clear b2 rb
  have l3 := v.lt
  have bX : Below W3.heap.size W3 ((W3.alloc (.cells #[.int .u64 0,.slice none 0 0] 26)).alloc (.cells #[.int .u64 0,.slice none 0 0] 26)) := by go_grown
  replace ra := ra.below bX ra.lt
  replace v := v.below bX v.lt
  replace hn := hn.below bX
  replace b3 := below_acc b3 b3.size bX
  have a1 := ra.cell1
  have a2 := ra.cell2
  have c0 := v.c0
  have c1 := v.c1
  have f0 := v.free 0
  have f1 := v.free 1
  have r := v.set (.int .u64 0) (some ⟨ga,0,none⟩) la ca
  have hB := below_two b3 (show w.heap.size ≤ w.heap.size + 1 + 1 by omega) (.int .u64 0) (.slice (some ⟨ga,0,none⟩) la ca)
  go_wp2_with fail
  exact bodyPost_var Tryz.results17 rfl rfl r (hn.two v _ _) hB
theorem EBox.touch2 {w : World} {e : Nat} {u : Value} {p : Option Addr} {l c : Nat} (h : EBox w e u (.slice p l c)) (x : Value) (q : Option Addr) (m k : Nat) :
    Touch e w ((w.setCell ⟨e,0,none⟩ x).setCell ⟨e,1,none⟩ (.slice q m k)) ∧ EBox ((w.setCell ⟨e,0,none⟩ x).setCell ⟨e,1,none⟩ (.slice q m k)) e x (.slice q m k) :=
  ⟨⟨((Chg.refl e w).set 0 x).set 1 _,_,_,_,h,(h.set0 x).set1 _,rfl,⟨1,_,_,_,rfl⟩,⟨1,_,_,_,rfl⟩⟩,(h.set0 x).set1 _⟩
def Spec.row (B K : Nat) (n : Int) : Spec := ⟨fun vs w => ∃ g L,B ≤ g ∧ L ≤ K ∧ IsRow w (vs.headD undef) g L L n,false,false,fun _ _ _ ⟨g,L,h1,h2,h⟩ b => ⟨g,L,h1,h2,h.below b⟩,fun _ _ _ _ _ ⟨g,L,h1,h2,h⟩ t _ => ⟨g,L,h1,h2,h.touch t⟩⟩
/-- Two rows of words,each in a block from B on. -/
def TwoRows (B K : Nat) (m n : Int) (u v : Value) (w : World) : Prop := ∃ g L g' L',(B ≤ g ∧ B ≤ g' ∧ L ≤ K ∧ L' ≤ K ∧ u = .slice (some ⟨g,0,none⟩) L L ∧ v = .slice (some ⟨g',0,none⟩) L' L') ∧ IsRow w u g L L m ∧ IsRow w v g' L' L' n
theorem TwoRows.below {B K : Nat} {m n : Int} {u v : Value} {w w' : World} (h : TwoRows B K m n u v w) (b : Below w.heap.size w w') : TwoRows B K m n u v w' := by
  obtain ⟨g,L,g',L',h0,h1,h2⟩ := h
  exact ⟨g,L,g',L',h0,h1.below b,h2.below b⟩
theorem TwoRows.touch {B K : Nat} {m n : Int} {u v : Value} {w w' : World} {p : Nat} (h : TwoRows B K m n u v w) (t : Touch p w w') : TwoRows B K m n u v w' := by
  obtain ⟨g,L,g',L',h0,h1,h2⟩ := h
  exact ⟨g,L,g',L',h0,h1.touch t,h2.touch t⟩
def Spec.euc0 (B : Nat) : Spec := .box B 68 (fun l _ => l = [.slice none 0 0,.slice none 0 0]) (fun _ _ _ h _ => h) (fun _ _ _ _ h _ => h)
theorem absI_nat (a : Int) : absI a = (a.natAbs : Int) := by unfold absI; split <;> omega
theorem small_of {w : World} {x : Int} {p : Option Addr} {l c : Nat} {n : Int} (h : IsNat w (.agg #[.int .u64 x,.slice p l c]) n) :
    ∃ (u : Int) (o : Bool),(∀ W,Calls Tryz.prog 47 #[.agg #[.int .u64 x,.slice p l c]] W fun e w' => e = .returned (.tuple #[.int .u64 u,.bool o]) ∧ Below W.heap.size W w') ∧
      ((o = true ∧ x = n ∧ p = none ∧ l = 0 ∧ c = 0 ∧ Word n) ∨ (o = false ∧ ∃ g,x = 0 ∧ p = some ⟨g,0,none⟩ ∧ n ≠ 0)) := by
  rcases h with ⟨hw,e⟩ | ⟨b,t,len,cap,k,e,ha,h2,hc,hl,hm,hw,ht,rfl⟩
  · cases e
    exact ⟨x,true,fun W => small_word x W,.inl ⟨rfl,rfl,rfl,rfl,rfl,hw⟩⟩
  · cases e
    refine ⟨0,false,fun W => small_many ⟨b,0,none⟩ l c W,.inr ⟨rfl,b,rfl,rfl,?_⟩⟩
    intro h0
    have e := val_take_succ (l := k) (k := l - 1) (by omega)
    rw [show l - 1 + 1 = l by omega,h0] at e
    have b1 := (val_bd (hw.take (l - 1))).1
    have hx := hw.getD (l - 1)
    have hp := pw_pos (l - 1)
    have : pw (l - 1) * 1 ≤ pw (l - 1) * k.getD (l - 1) 0 := Int.mul_le_mul_of_nonneg_left (by unfold Word at hx; omega) (by omega)
    omega
end Go.Proofs.YtgccgacpifebbaaGreatDoor
