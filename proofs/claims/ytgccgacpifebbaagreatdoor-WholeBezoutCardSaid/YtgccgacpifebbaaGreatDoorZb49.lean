/- BezW -/
import Derived.Test.YtgccgacpifebbaaGreatDoorZb48
namespace Go.Proofs.YtgccgacpifebbaaGreatDoor
open Go.RowKit
set_option linter.unusedVariables false
theorem IsInt.ofNat {w : World} {x : Int} {n : Nat} {p : Option Addr} {l c : Nat} (h : IsNat w (.agg #[.int .u64 x,.slice p l c]) (n : Nat)) : IsInt w (.agg #[.bool false,.int .u64 x,.slice p l c]) (n : Nat) :=
  ⟨_,_,_,_,by rw [show decide ((n : Int) < 0) = false by simp],by rw [show absI (n : Int) = n by unfold absI; rw [if_neg (by omega)]]; exact h⟩
theorem below_touch3 {B p : Nat} {w w' w'' : World} (h : Below B w w') (t : Touch p w' w'') (hp : B ≤ p) : Below B w w'' :=
  ⟨t.1.1.trans h.os,t.1.2.1.trans h.tape,t.1.2.2.1.trans h.output,Nat.le_trans h.size (Nat.le_of_eq t.1.2.2.2.1.symm),fun k hk => (t.1.2.2.2.2 k (by omega)).trans (h.block k hk)⟩
theorem IsInt.base {w w' : World} {b : Bool} {x z : Int} {p : Option Addr} {l c : Nat} {P : Nat → Prop} (h : IsInt w (.agg #[.bool b,.int .u64 x,.slice p l c]) z) (o : Base w P w') (hp : ∀ a,p = some a → ¬ P a.block) : IsInt w' (.agg #[.bool b,.int .u64 x,.slice p l c]) z := h.only (P := P) o hp
set_option maxRecDepth 100000 in
set_option maxHeartbeats 8000000 in
theorem bezout_more (M : Nat) (hM : M ≤ 30) (va vb : Value) (a b : Int) (w : World) (ha : IsInt w va a) (hb : IsInt w vb b) (haM : absI a < pw M) (hbM : absI b < pw M) (hb0 : b ≠ 0) :
    Calls Tryz.prog 11 #[va,vb] w fun e w' => ∃ x y,RetIII (Int.gcd a b : Nat) x y w e w' ∧ BezQ a b (Int.gcd a b : Nat) x y := by
  have hM40 : M ≤ 40 := by omega
  obtain ⟨bA,xA,pA,lA,cA,rfl,iA⟩ := ha.cells
  obtain ⟨bB,xB,pB,lB,cB,rfl,iB⟩ := hb.cells
  clear ha hb
  obtain ⟨A,hA⟩ : ∃ A : Nat,a.natAbs = A := ⟨_,rfl⟩
  obtain ⟨B,hB⟩ : ∃ B : Nat,b.natAbs = B := ⟨_,rfl⟩
  have hAM : (A : Int) < pw M := by rw [← hA,← absI_nat]; exact haM
  have hBM : (B : Int) < pw M := by rw [← hB,← absI_nat]; exact hbM
  have hB0 : 0 < B := by omega
  have HA := Lib.hid hA
  have HB := Lib.hid hB
  obtain ⟨z,hz⟩ : ∃ z,sgnI b = z := ⟨_,rfl⟩
  have hz0 : (z == 0) = false := by rw [← hz]; rcases sgnI_ne hb0 with h | h <;> rw [h] <;> rfl
  obtain ⟨O,hO⟩ : ∃ O,((((w.alloc (.cells #[.bool bA,.int .u64 xA,.slice pA lA cA] 28)).alloc (.cells #[.bool bB,.int .u64 xB,.slice pB lB cB] 28)).alloc (.cells #[.bool false,.int .u64 0,.slice none 0 0] 28)).alloc (.cells #[.bool false,.int .u64 0,.slice none 0 0] 28)).alloc (.cells #[.bool false,.int .u64 0,.slice none 0 0] 28) = O := ⟨_,rfl⟩
  have b0 : Below w.heap.size w O := by subst hO; go_grown
  have ra : Row3 O w.heap.size (.bool bA) (.int .u64 xA) (.slice pA lA cA) := by subst hO; exact ((((Row3.new w _ _ _ _ rfl).alloc _).alloc _).alloc _).alloc _
  have rb : Row3 O (w.heap.size + 1) (.bool bB) (.int .u64 xB) (.slice pB lB cB) := by subst hO; exact (((Row3.new _ _ _ _ _ (by simp)).alloc _).alloc _).alloc _
  have rc4 : Row3 O (w.heap.size + 1 + 1) (.bool false) (.int .u64 0) (.slice none 0 0) := by subst hO; exact ((Row3.new _ _ _ _ _ (by simp)).alloc _).alloc _
  have rc5 : Row3 O (w.heap.size + 1 + 1 + 1) (.bool false) (.int .u64 0) (.slice none 0 0) := by subst hO; exact (Row3.new _ _ _ _ _ (by simp)).alloc _
  have rc6 : Row3 O (w.heap.size + 1 + 1 + 1 + 1) (.bool false) (.int .u64 0) (.slice none 0 0) := by subst hO; exact Row3.new _ _ _ _ _ (by simp)
  have jA := iA
  have jB := iB
  replace iA := iA.below b0
  replace iB := iB.below b0
  obtain ⟨q,hq⟩ : ∃ q,w.heap.size = q := ⟨_,rfl⟩
  have e0 := rb.cell0
  have e1 := rb.cell1
  have e2 := rb.cell2
  rw [hq] at ra rb rc4 rc5 rc6 e0 e1 e2
  have Hq := Lib.hid hq
  clear hA hB haM hbM
  go_enter Tryz.func11,Tryz.ntmps11
  go_wp2_with fail
  clear e0 e1 e2 hO hq
  refine (sign_int _ b O iB).mono ?_
  rintro e W2 ⟨rfl,b1⟩
  rw [hz]
  clear hz
  replace ra := ra.below b1 ra.lt
  replace rb := rb.below b1 rb.lt
  replace rc4 := rc4.below b1 rc4.lt
  replace rc5 := rc5.below b1 rc5.lt
  replace rc6 := rc6.below b1 rc6.lt
  replace iA := iA.below b1
  replace iB := iB.below b1
  replace b1 := below_acc b0 b0.size b1
  clear b0
  have nA := iA.nat
  have nB := iB.nat
  rw [absI_nat,HA.out] at nA
  rw [absI_nat,HB.out] at nB
  go_wp2_with fail
  refine wpIn_wide (n := 5) |>.1 ?_
  refine region_rg [⟨some 22,[],[0],false,none,[],[],false,false,false⟩,⟨some 23,[(0,some 22)],[1],false,none,[],[],false,true,false⟩,⟨some 24,[(1,some 23)],[2],false,none,[],[],false,true,false⟩,⟨some 25,[],[3],false,none,[],[],false,false,false⟩,⟨some 26,[(3,some 25)],[4],false,none,[],[],false,true,false⟩,⟨some 27,[(4,some 26),(2,some 24)],[5,2],false,none,[],[],false,true,false⟩,⟨some 28,[(2,some 24),(5,some 27)],[6],false,none,[],[],false,false,false⟩,⟨some 7,[],[7],true,none,[],[],false,false,false⟩,⟨none,[(7,some 7),(6,some 28)],[7],true,some 7,[7],[0,1,2,3,4,5],false,false,false⟩] [Spec.lit (.pointer (some ⟨q,1,none⟩)),Spec.lit (.agg #[.int .u64 xA,.slice pA lA cA]),Spec.row W2.heap.size M A,Spec.lit (.pointer (some ⟨q + 1,1,none⟩)),Spec.lit (.agg #[.int .u64 xB,.slice pB lB cB]),Spec.row2 W2.heap.size M B,Spec.euc2 W2.heap.size M A B,Spec.euc0 W2.heap.size,Spec.eucv2 W2.heap.size M A B] [7] (fun _ => False) [0,1,2,3,4,5,6,7,8] [0,1,2,3,4,5,6,8] (by kernel_rfl) rfl (by kernel_rfl) rfl (fun _ h => (h : False).elim) rfl (by kernel_rfl) [(0,some 22),(1,some 23),(2,some 24),(3,some 25),(4,some 26),(5,some 27),(6,some 28),(7,some 7),(8,none)] rfl (AllRuns.cons (some 22) [] [0] rfl rfl rfl rfl none rfl _ _ rfl rfl ?_ (AllRuns.cons (some 23) [(0,some 22)] [1] rfl rfl rfl rfl none rfl _ _ rfl rfl ?_ (AllRuns.cons (some 24) [(1,some 23)] [2] rfl rfl rfl rfl none rfl _ _ rfl rfl ?_ (AllRuns.cons (some 25) [] [3] rfl rfl rfl rfl none rfl _ _ rfl rfl ?_ (AllRuns.cons (some 26) [(3,some 25)] [4] rfl rfl rfl rfl none rfl _ _ rfl rfl ?_ (AllRuns.cons (some 27) [(4,some 26),(2,some 24)] [5,2] rfl rfl rfl rfl none rfl _ _ rfl rfl ?_ (AllRuns.cons (some 28) [(2,some 24),(5,some 27)] [6] rfl rfl rfl rfl none rfl _ _ rfl rfl ?_ (AllRuns.cons (some 7) [] [7] rfl rfl rfl rfl none rfl _ _ rfl rfl ?_ (AllRuns.cons none [(7,some 7),(6,some 28)] [7] rfl rfl rfl rfl (some 7) rfl _ _ rfl rfl ?_ (AllRuns.nil)))))))))) ?_
  · rintro env W hB - K hK
    simp only [fill,Act.put,List.setIfInBounds_toArray,List.set_cons_zero,List.set_cons_succ] at hK ⊢
    go_simp; exact hid hK _ _ (Below.refl _ _) rfl (novar rfl)
  · rintro env W hB ⟨h0,-⟩ K hK
    have e0 : env 0 = .pointer (some ⟨q,1,none⟩) := h0
    simp only [fill,Act.put,List.setIfInBounds_toArray,List.set_cons_zero,List.set_cons_succ,e0] at hK ⊢
    have acc := Base.bx hB
    have rr := ra.below acc ra.lt
    have d0 := rr.cell1
    have d1 := rr.cell2
    go_simp; exact hid hK _ _ (Below.refl _ _) rfl (novar rfl)
  · rintro env W hB ⟨h1,-⟩ K hK
    have e1 : env 1 = .agg #[.int .u64 xA,.slice pA lA cA] := h1
    simp only [fill,Act.put,List.setIfInBounds_toArray,List.set_cons_zero,List.set_cons_succ,e1] at hK ⊢
    have acc := Base.bx hB
    go_simp
    gi_wp2_with (refine ⟨trivial,?_⟩; gi_at_call 32; refine (callsIn_wide.2 (wordsOf_any M hM40 _ A W (nA.below acc) hAM)).mono ?_; rintro e W2 ⟨g9,L9,u9,rfl,i9,z9,f9,hb⟩)
    exact hid hK _ _ hb ⟨g9,L9,Nat.le_trans hB.2.2.2.1 f9,z9,i9⟩ (novar rfl)
  · rintro env W hB - K hK
    simp only [fill,Act.put,List.setIfInBounds_toArray,List.set_cons_zero,List.set_cons_succ] at hK ⊢
    go_simp; exact hid hK _ _ (Below.refl _ _) rfl (novar rfl)
  · rintro env W hB ⟨h3,-⟩ K hK
    have e3 : env 3 = .pointer (some ⟨q + 1,1,none⟩) := h3
    simp only [fill,Act.put,List.setIfInBounds_toArray,List.set_cons_zero,List.set_cons_succ,e3] at hK ⊢
    have acc := Base.bx hB
    have rr := rb.below acc rb.lt
    have d0 := rr.cell1
    have d1 := rr.cell2
    go_simp; exact hid hK _ _ (Below.refl _ _) rfl (novar rfl)
  · rintro env W hB ⟨h4,h2,-⟩ K hK
    have e4 : env 4 = .agg #[.int .u64 xB,.slice pB lB cB] := h4
    obtain ⟨g2,L2,y2,z2,r2⟩ := h2
    replace r2 : IsRow W (env 2) g2 L2 L2 A := r2
    have e2 : env 2 = .slice (some ⟨g2,0,none⟩) L2 L2 := r2.1
    simp only [fill,Act.put,List.setIfInBounds_toArray,List.set_cons_zero,List.set_cons_succ,e4,e2] at hK ⊢
    have acc := Base.bx hB
    go_simp
    gi_wp2_with (refine ⟨trivial,?_⟩; gi_at_call 32; refine (callsIn_wide.2 (wordsOf_any M hM40 _ B W (nB.below acc) hBM)).mono ?_; rintro e W2 ⟨g9,L9,u9,rfl,i9,z9,f9,hb⟩)
    exact hid hK _ _ hb ⟨g9,L9,Nat.le_trans hB.2.2.2.1 f9,z9,i9,fun g1 L1 e1 => by have e1 : env 2 = _ := e1; rw [e2] at e1; simp only [Value.slice.injEq,Option.some.injEq,Addr.mk.injEq] at e1; have := r2.lt; omega⟩ (novar rfl)
  · rintro env W hB ⟨h2,h5,-⟩ K hK
    obtain ⟨g2,L2,y2,z2,r2⟩ := h2
    replace r2 : IsRow W (env 2) g2 L2 L2 A := r2
    have e2 : env 2 = .slice (some ⟨g2,0,none⟩) L2 L2 := r2.1
    obtain ⟨g5,L5,y5,z5,r5,d5⟩ := h5
    replace r5 : IsRow W (env 5) g5 L5 L5 B := r5
    have e5 : env 5 = .slice (some ⟨g5,0,none⟩) L5 L5 := r5.1
    simp only [fill,Act.put,List.setIfInBounds_toArray,List.set_cons_zero,List.set_cons_succ,e2,e5] at hK ⊢
    go_simp; exact hid hK _ _ (Below.refl _ _) ⟨_,_,rfl,g2,L2,g5,L5,⟨y2,y5,z2,z5,d5 g2 L2 e2,rfl,rfl⟩,e2 ▸ r2,e5 ▸ r5⟩ (novar rfl)
  · rintro env W hB - K hK
    simp only [fill,Act.put,List.setIfInBounds_toArray,List.set_cons_zero,List.set_cons_succ] at hK ⊢
    go_simp; exact hid hK _ _ (Below.refl _ _ |>.alloc (Nat.le_refl _) _) ⟨_,[.slice none 0 0,.slice none 0 0],rfl,hB.2.2.2.1,heap_alloc_new _ _,rfl⟩ (fun _ => ⟨rfl,by simp⟩)
  · rintro env W hB ⟨h7,h6,-⟩ K hK
    obtain ⟨p7,l7,z7,hp7,hc7,hl7⟩ := h7
    have e7 : env 7 = .pointer (some ⟨p7,0,none⟩) := z7
    subst hl7
    have vp : EBox W p7 (.slice none 0 0) (.slice none 0 0) := hc7
    have d0 := vp.cell0
    have d1 := vp.cell1
    have d2 := vp.free 0
    have d3 := vp.free 1
    obtain ⟨u6,v6,e6,t6⟩ := h6
    replace e6 : env 6 = .agg #[u6,v6] := e6
    simp only [fill,Act.put,List.setIfInBounds_toArray,List.set_cons_zero,List.set_cons_succ,e7,e6] at hK ⊢
    obtain ⟨g2,L2,g5,L5,⟨y2,y5,z2,z5,d25,rfl,rfl⟩,r2,r5⟩ := t6
    have tr := EBox.touch2 vp (.slice (some ⟨g2,0,none⟩) L2 L2) (some ⟨g5,0,none⟩) L5 L5
    go_simp
    exact hid hK undef _ ⟨p7,z7,hp7,tr.1⟩ ⟨p7,_,z7,hp7,tr.2,_,_,rfl,g2,L2,g5,L5,⟨y2,y5,z2,z5,d25,rfl,rfl⟩,r2.touch tr.1,r5.touch tr.1⟩ (novar rfl)
  · rintro env W3 hB ⟨h0,h1,h2,h3,h4,h5,h6,h8,-⟩ hv hap
    have e0 : env 0 = .pointer (some ⟨q,1,none⟩) := h0
    have e1 : env 1 = .agg #[.int .u64 xA,.slice pA lA cA] := h1
    have e3 : env 3 = .pointer (some ⟨q + 1,1,none⟩) := h3
    have e4 : env 4 = .agg #[.int .u64 xB,.slice pB lB cB] := h4
    obtain ⟨p7,l7,z7,hp7,hc7,u7,v7,hl7,g2,L2,g5,L5,⟨y2,y5,z2,z5,d25,rfl,rfl⟩,r2,r5⟩ := h8
    have e7 : env 7 = .pointer (some ⟨p7,0,none⟩) := z7
    subst hl7
    simp only [fill,Act.put,List.setIfInBounds_toArray,List.set_cons_zero,List.set_cons_succ,e0,e1,e3,e4,e7]
    clear h0 e0 h1 e1 h3 e3 h4 e4
    have eb : EBox W3 p7 (.slice (some ⟨g2,0,none⟩) L2 L2) (.slice (some ⟨g5,0,none⟩) L5 L5) := hc7
    have bq : Below W2.heap.size W2 W3 := Base.bx hB
    have hE : ERow W3 p7 g2 g5 (A : Nat) (B : Nat) := by
      obtain ⟨xs,x1,x2,x3,x4,x5⟩ := r2.wds
      obtain ⟨ys,y1,y2',y3,y4',y5⟩ := r5.wds
      exact ⟨_,_,0,0,xs,ys,eb,x2,y2',x3,y3,x4,y4',x5,y5,by omega,by omega,d25,Ne.symm (x2.2.ne_slice eb.cell0),Ne.symm (y2'.2.ne_slice eb.cell0)⟩
    replace ra := ra.below bq ra.lt
    replace rb := rb.below bq rb.lt
    replace rc4 := rc4.below bq rc4.lt
    have l6 := rc6.lt
    replace rc5 := rc5.below bq rc5.lt
    replace rc6 := rc6.below bq rc6.lt
    replace b1 := below_acc b1 b1.size bq
    clear eb hc7 r2 r5 nA nB bq iA iB
    generalize env 2 = x2
    generalize env 5 = x5
    generalize env 6 = x6
    obtain ⟨l7,y2,y5⟩ : q + 5 ≤ p7 ∧ q + 5 ≤ g2 ∧ q + 5 ≤ g5 := ⟨by omega,by omega,by omega⟩
    go_wp2_with fail
    refine (of_word 1 (by decide) W3).mono ?_
    rintro e W4 ⟨rfl,b4⟩
    go_wp2_with fail
    refine (of_word 0 (by decide) W4).mono ?_
    rintro e W5 ⟨rfl,b5⟩
    have b6 : Below W5.heap.size W5 (W5.alloc (.cells #[.bool false,.int .u64 1,.slice none 0 0,.bool false,.int .u64 0,.slice none 0 0] 70)) := by go_grown
    have bq : Below W3.heap.size W3 (W5.alloc (.cells #[.bool false,.int .u64 1,.slice none 0 0,.bool false,.int .u64 0,.slice none 0 0] 70)) := below_acc (below_acc b4 b4.size b5) (below_acc b4 b4.size b5).size b6
    have h8 : Row6 (W5.alloc (.cells #[.bool false,.int .u64 1,.slice none 0 0,.bool false,.int .u64 0,.slice none 0 0] 70)) W5.heap.size 70 (.bool false) (.int .u64 1) (.slice none 0 0) (.bool false) (.int .u64 0) (.slice none 0 0) := heap_new _ _ _ rfl
    have l8 : W3.heap.size ≤ W5.heap.size := (below_acc b4 b4.size b5).size
    go_wp2_with fail
    generalize W5.alloc (.cells #[.bool false,.int .u64 1,.slice none 0 0,.bool false,.int .u64 0,.slice none 0 0] 70) = W6 at bq h8 ⊢
    generalize W5.heap.size = p8 at h8 l8 ⊢
    clear b4 b5 b6
    replace ra := ra.below bq ra.lt
    replace rb := rb.below bq rb.lt
    replace rc4 := rc4.below bq rc4.lt
    replace rc5 := rc5.below bq rc5.lt
    have lE := hE.lt
    replace rc6 := rc6.below bq rc6.lt
    replace hE := hE.below bq
    replace b1 := below_acc b1 b1.size bq
    clear bq
    have n87 : p8 ≠ p7 := by omega
    have z8 : q + 5 ≤ p8 := by omega
    have w6 : q + 5 ≤ W6.heap.size := by have := h8.lt; omega
    have S0 : BezS A B M q p7 p8 A B g2 g5 1 0 false 1 none 0 0 false 0 none 0 0 W6 :=
      ⟨hE,⟨_,_,_,_,by rfl,IsNat.word ⟨by decide,by decide⟩⟩,lit0_int _,by simp,by simp,bezI_start A B (by omega),rfl,hAM,hBM,y2,y5,by omega,by omega⟩
    clear hE y2 y5 lE l6 l8
    generalize (Value.agg #[.bool bA,.int .u64 xA,.slice pA lA cA]) = V0
    generalize (Value.agg #[.bool bB,.int .u64 xB,.slice pB lB cB]) = V1
    generalize (Value.agg #[.int .u64 xA,.slice pA lA cA]) = V23
    generalize (Value.agg #[.int .u64 xB,.slice pB lB cB]) = V26
    generalize (Value.agg #[.bool false,.int .u64 1,.slice none 0 0]) = V29
    generalize (Value.agg #[.bool false,.int .u64 0,.slice none 0 0]) = V30
    generalize (Value.agg #[.bool false,.int .u64 1,.slice none 0 0,.bool false,.int .u64 0,.slice none 0 0]) = V31
    go_loopg [] B (fun g wr => ∃ (X Y ga gb : Nat) (T0 T1 : Int) (s0 : Bool) (y0 : Int) (q0 : Option Addr) (m0 w0 : Nat) (s1 : Bool) (y1 : Int) (q1 : Option Addr) (m1 w1 : Nat),g = Y ∧ BezS A B M q p7 p8 X Y ga gb T0 T1 s0 y0 q0 m0 w0 s1 y1 q1 m1 w1 wr ∧ Row6 wr p8 70 (.bool s0) (.int .u64 y0) (.slice q0 m0 w0) (.bool s1) (.int .u64 y1) (.slice q1 m1 w1) ∧ Below (q + 5) W6 wr)
    case atStart => exact ⟨A,B,g2,g5,1,0,_,_,_,_,_,_,_,_,_,_,rfl,S0,h8,Below.refl _ _⟩
    case round =>
      clear S0 h8
      obtain ⟨X,Y,ga,gb,T0,T1,s0,y0,q0,m0,w0,s1,y1,q1,m1,w1,hgk,S0,h8,acc⟩ := hrel
      have Hg := Lib.hid hgk
      clear hgk
      obtain ⟨ua,ub,za,zb,xs,ys,eb,wa,wb,wx,wy,vx,vy,tx,ty,lx,ly,nab,nea,neb⟩ := S0.hE
      have c1 := eb.cell1
      obtain rfl := wb.1
      by_cases hY : 0 < Y
      · have hL : 0 < ys.length := by
          apply Classical.byContradiction
          intro h
          have : ys = [] := List.eq_nil_of_length_eq_zero (by omega)
          subst this
          simp [val] at vy
          omega
        clear wa wb wx wy vx vy tx ty lx ly nab nea neb eb
        obtain ⟨Ly,hLy⟩ : ∃ L,ys.length = L := ⟨_,rfl⟩
        rw [hLy] at c1 hL
        obtain ⟨cz,hcz⟩ : ∃ c,Ly + zb = c := ⟨_,rfl⟩
        rw [hcz] at c1
        clear hLy hcz
        go_wp2_with fail
        clear c1
        refine wpIn_wide (n := 5) |>.1 ?_
        refine region_ways (by kernel_rfl) fun R hR => ?_
        have U := fun (n : Nat) (l : Array Bool) (a : Act) (w : World) (h : R n l a w) => cast (congrFun (congrFun (congrFun (congrFun hR.symm n) l) a) w) h
        have H0 : ∀ (W : World) (acc : Below (q + 5) W6 W) (v : Value) (X1 Y1 ga1 gb1 : Nat) (t0 t1 : Int) (s2 : Bool) (y2 : Int) (q2 : Option Addr) (m2 w2 : Nat) (s3 : Bool) (y3 : Int) (q3 : Option Addr) (m3 w3 : Nat) (lt : Y1 < Y) (S1 : BezS A B M q p7 p8 X1 Y1 ga1 gb1 t0 t1 s2 y2 q2 m2 w2 s3 y3 q3 m3 w3 W) (h8 : Row6 W p8 70 (.bool s2) (.int .u64 y2) (.slice q2 m2 w2) (.bool s3) (.int .u64 y3) (.slice q3 m3 w3)),R 0 #[true,true,true,true] { tmps := #[V0,V1,.pointer (some ⟨q,0,none⟩),.pointer (some ⟨q + 1,0,none⟩),.pointer (some ⟨q + 1 + 1,0,none⟩),.pointer (some ⟨q + 1 + 1 + 1,0,none⟩),.pointer (some ⟨q + 1 + 1 + 1 + 1,0,none⟩),.pointer (some ⟨p7,0,none⟩),.pointer (some ⟨p8,0,none⟩),undef,undef,undef,V1,.int .i64 z,.bool false,undef,undef,undef,undef,undef,undef,undef,.pointer (some ⟨q,1,none⟩),V23,x2,.pointer (some ⟨q + 1,1,none⟩),V26,x5,x6,V29,V30,V31,.pointer (some ⟨p7,1,none⟩),.slice (some ⟨gb,0,none⟩) Ly cz,.int .i64 ↑Ly,.bool true,.agg #[.bool s0,.int .u64 y0,.slice q0 m0 w0,.bool s1,.int .u64 y1,.slice q1 m1 w1],v,.agg #[.bool s2,.int .u64 y2,.slice q2 m2 w2,.bool s3,.int .u64 y3,.slice q3 m3 w3],undef,undef,undef,undef,undef,undef,undef,undef,undef,undef,undef,undef,undef,undef,undef,undef,undef,undef,undef,undef,undef,undef,undef,undef,undef,undef,undef,undef,undef,undef,undef,undef,undef,undef,undef,undef,undef,undef,undef,undef],defers := [] } W := by
          intro W acc v X1 Y1 ga1 gb1 t0 t1 s2 y2 q2 m2 w2 s3 y3 q3 m3 w3 lt S1 h8
          rw [← hR]
          refine wpAnyIn_done (by kernel_rfl) ?_ _
          go_wp2_with fail
          go_roundg Y1
          case measure => have := Hg.out; omega
          case rel => exact ⟨X1,Y1,ga1,gb1,t0,t1,s2,y2,q2,m2,w2,s3,y3,q3,m3,w3,rfl,S1,h8,acc⟩
        have H1 : ∀ (W : World) (acc : Below (q + 5) W6 W) (v : Value) (X1 Y1 ga1 gb1 : Nat) (t0 t1 : Int) (s2 : Bool) (y2 : Int) (q2 : Option Addr) (m2 w2 : Nat) (s3 : Bool) (y3 : Int) (q3 : Option Addr) (m3 w3 : Nat) (lt : Y1 < Y) (S1 : BezS A B M q p7 p8 X1 Y1 ga1 gb1 t0 t1 s2 y2 q2 m2 w2 s3 y3 q3 m3 w3 W) (h8 : Row6 W p8 70 (.bool s0) (.int .u64 y0) (.slice q0 m0 w0) (.bool s1) (.int .u64 y1) (.slice q1 m1 w1)),R 1 #[true,true,true,false] { tmps := #[V0,V1,.pointer (some ⟨q,0,none⟩),.pointer (some ⟨q + 1,0,none⟩),.pointer (some ⟨q + 1 + 1,0,none⟩),.pointer (some ⟨q + 1 + 1 + 1,0,none⟩),.pointer (some ⟨q + 1 + 1 + 1 + 1,0,none⟩),.pointer (some ⟨p7,0,none⟩),.pointer (some ⟨p8,0,none⟩),undef,undef,undef,V1,.int .i64 z,.bool false,undef,undef,undef,undef,undef,undef,undef,.pointer (some ⟨q,1,none⟩),V23,x2,.pointer (some ⟨q + 1,1,none⟩),V26,x5,x6,V29,V30,V31,.pointer (some ⟨p7,1,none⟩),.slice (some ⟨gb,0,none⟩) Ly cz,.int .i64 ↑Ly,.bool true,.agg #[.bool s0,.int .u64 y0,.slice q0 m0 w0,.bool s1,.int .u64 y1,.slice q1 m1 w1],v,.agg #[.bool s2,.int .u64 y2,.slice q2 m2 w2,.bool s3,.int .u64 y3,.slice q3 m3 w3],undef,undef,undef,undef,undef,undef,undef,undef,undef,undef,undef,undef,undef,undef,undef,undef,undef,undef,undef,undef,undef,undef,undef,undef,undef,undef,undef,undef,undef,undef,undef,undef,undef,undef,undef,undef,undef,undef,undef,undef],defers := [] } W := by
          intro W acc v X1 Y1 ga1 gb1 t0 t1 s2 y2 q2 m2 w2 s3 y3 q3 m3 w3 lt S1 h8
          rw [← hR]
          have k0 := h8.cell0
          have k1 := h8.cell1
          have k2 := h8.cell2
          have k3 := h8.cell3
          have k4 := h8.cell4
          have k5 := h8.cell5
          have f0 := h8.free 0
          have f1 := h8.free 1
          have f2 := h8.free 2
          have f3 := h8.free 3
          have f4 := h8.free 4
          have f5 := h8.free 5
          refine wpAnyIn_ready (rs := [3]) (by kernel_rfl) (by simp) (AllReadyIn.cons rfl (fun K hK => ?_) (AllReadyIn.nil))
          · go_simp; exact hK _ _ (U _ _ _ _ (H0 ((((((W.setCell ⟨p8,0,none⟩ (.bool s2)).setCell ⟨p8,1,none⟩ (.int .u64 y2)).setCell ⟨p8,2,none⟩ (.slice q2 m2 w2)).setCell ⟨p8,3,none⟩ (.bool s3)).setCell ⟨p8,4,none⟩ (.int .u64 y3)).setCell ⟨p8,5,none⟩ (.slice q3 m3 w3)) ((((((acc.setCell (p := ⟨p8,0,none⟩) z8 (.bool s2)).setCell (p := ⟨p8,1,none⟩) z8 (.int .u64 y2)).setCell (p := ⟨p8,2,none⟩) z8 (.slice q2 m2 w2)).setCell (p := ⟨p8,3,none⟩) z8 (.bool s3)).setCell (p := ⟨p8,4,none⟩) z8 (.int .u64 y3)).setCell (p := ⟨p8,5,none⟩) z8 (.slice q3 m3 w3)) v X1 Y1 ga1 gb1 t0 t1 s2 y2 q2 m2 w2 s3 y3 q3 m3 w3 lt (S1.only (((((((Only.refl W (fun k => k = p8)).set (q := p8) rfl 0 _).set (q := p8) rfl 1 _).set (q := p8) rfl 2 _).set (q := p8) rfl 3 _).set (q := p8) rfl 4 _).set (q := p8) rfl 5 _) n87) ((h8.set0 _ _ _).set3 _ _ _)))
        have H2 : ∀ (W : World) (acc : Below (q + 5) W6 W) (v : Value) (e f g h : Int) (X1 Y1 ga1 gb1 : Nat) (T : BezT A B M q p7 p8 Y T0 T1 s0 y0 q0 m0 w0 s1 y1 q1 m1 w1 v e f g h X1 Y1 ga1 gb1 W) (h8 : Row6 W p8 70 (.bool s0) (.int .u64 y0) (.slice q0 m0 w0) (.bool s1) (.int .u64 y1) (.slice q1 m1 w1)),R 2 #[true,true,false,false] { tmps := #[V0,V1,.pointer (some ⟨q,0,none⟩),.pointer (some ⟨q + 1,0,none⟩),.pointer (some ⟨q + 1 + 1,0,none⟩),.pointer (some ⟨q + 1 + 1 + 1,0,none⟩),.pointer (some ⟨q + 1 + 1 + 1 + 1,0,none⟩),.pointer (some ⟨p7,0,none⟩),.pointer (some ⟨p8,0,none⟩),undef,undef,undef,V1,.int .i64 z,.bool false,undef,undef,undef,undef,undef,undef,undef,.pointer (some ⟨q,1,none⟩),V23,x2,.pointer (some ⟨q + 1,1,none⟩),V26,x5,x6,V29,V30,V31,.pointer (some ⟨p7,1,none⟩),.slice (some ⟨gb,0,none⟩) Ly cz,.int .i64 ↑Ly,.bool true,.agg #[.bool s0,.int .u64 y0,.slice q0 m0 w0,.bool s1,.int .u64 y1,.slice q1 m1 w1],v,u38,undef,undef,undef,undef,undef,undef,undef,undef,undef,undef,undef,undef,undef,undef,undef,undef,undef,undef,undef,undef,undef,undef,undef,undef,undef,undef,undef,undef,undef,undef,undef,undef,undef,undef,undef,undef,undef,undef,undef,undef],defers := [] } W := by
          intro W acc v e f g h X1 Y1 ga1 gb1 T h8
          rw [← hR]
          refine wpAnyIn_ready (rs := [2]) (by kernel_rfl) (by simp) (AllReadyIn.cons rfl (fun K hK => ?_) (AllReadyIn.nil))
          · go_simp
            gi_wp2_with (refine ⟨trivial,?_⟩; gi_at_call 33; refine (callsIn_wide.2 (T.by h8 acc w6 hM)).mono ?_; rintro rr W2 ⟨s2,y2,q2,m2,w2,s3,y3,q3,m3,w3,rfl,S1,h8',acc'⟩)
            exact U _ _ _ _ (H1 W2 acc' v X1 Y1 ga1 gb1 _ _ s2 y2 q2 m2 w2 s3 y3 q3 m3 w3 T.lt S1 h8')
        have H3 : ∀ (W : World) (acc : Below (q + 5) W6 W) (S0 : BezS A B M q p7 p8 X Y ga gb T0 T1 s0 y0 q0 m0 w0 s1 y1 q1 m1 w1 W) (h8 : Row6 W p8 70 (.bool s0) (.int .u64 y0) (.slice q0 m0 w0) (.bool s1) (.int .u64 y1) (.slice q1 m1 w1)),R 3 #[true,false,false,false] { tmps := #[V0,V1,.pointer (some ⟨q,0,none⟩),.pointer (some ⟨q + 1,0,none⟩),.pointer (some ⟨q + 1 + 1,0,none⟩),.pointer (some ⟨q + 1 + 1 + 1,0,none⟩),.pointer (some ⟨q + 1 + 1 + 1 + 1,0,none⟩),.pointer (some ⟨p7,0,none⟩),.pointer (some ⟨p8,0,none⟩),undef,undef,undef,V1,.int .i64 z,.bool false,undef,undef,undef,undef,undef,undef,undef,.pointer (some ⟨q,1,none⟩),V23,x2,.pointer (some ⟨q + 1,1,none⟩),V26,x5,x6,V29,V30,V31,.pointer (some ⟨p7,1,none⟩),.slice (some ⟨gb,0,none⟩) Ly cz,.int .i64 ↑Ly,.bool true,.agg #[.bool s0,.int .u64 y0,.slice q0 m0 w0,.bool s1,.int .u64 y1,.slice q1 m1 w1],u37,u38,undef,undef,undef,undef,undef,undef,undef,undef,undef,undef,undef,undef,undef,undef,undef,undef,undef,undef,undef,undef,undef,undef,undef,undef,undef,undef,undef,undef,undef,undef,undef,undef,undef,undef,undef,undef,undef,undef,undef,undef],defers := [] } W := by
          intro W acc S0 h8
          rw [← hR]
          refine wpAnyIn_ready (rs := [1]) (by kernel_rfl) (by simp) (AllReadyIn.cons rfl (fun K hK => ?_) (AllReadyIn.nil))
          · go_simp
            gi_wp2_with (refine ⟨trivial,?_⟩; gi_at_call 34; refine (callsIn_wide.2 (step_any p7 ga gb X Y W S0.hE (by omega))).mono ?_; rintro rr W2 hst; obtain ⟨v,e,f,g,h,X1,Y1,ga1,gb1,rfl,T,h8',acc'⟩ := S0.turn h8 acc w6 l7 n87 hBM hY hst)
            exact U _ _ _ _ (H2 W2 acc' v e f g h X1 Y1 ga1 gb1 T h8')
        have H4 : ∀ (W : World) (acc : Below (q + 5) W6 W) (v : Value) (e f g h : Int) (X1 Y1 ga1 gb1 : Nat) (T : BezT A B M q p7 p8 Y T0 T1 s0 y0 q0 m0 w0 s1 y1 q1 m1 w1 v e f g h X1 Y1 ga1 gb1 W) (h8 : Row6 W p8 70 (.bool s0) (.int .u64 y0) (.slice q0 m0 w0) (.bool s1) (.int .u64 y1) (.slice q1 m1 w1)),R 3 #[false,true,false,false] { tmps := #[V0,V1,.pointer (some ⟨q,0,none⟩),.pointer (some ⟨q + 1,0,none⟩),.pointer (some ⟨q + 1 + 1,0,none⟩),.pointer (some ⟨q + 1 + 1 + 1,0,none⟩),.pointer (some ⟨q + 1 + 1 + 1 + 1,0,none⟩),.pointer (some ⟨p7,0,none⟩),.pointer (some ⟨p8,0,none⟩),undef,undef,undef,V1,.int .i64 z,.bool false,undef,undef,undef,undef,undef,undef,undef,.pointer (some ⟨q,1,none⟩),V23,x2,.pointer (some ⟨q + 1,1,none⟩),V26,x5,x6,V29,V30,V31,.pointer (some ⟨p7,1,none⟩),.slice (some ⟨gb,0,none⟩) Ly cz,.int .i64 ↑Ly,.bool true,u36,v,u38,undef,undef,undef,undef,undef,undef,undef,undef,undef,undef,undef,undef,undef,undef,undef,undef,undef,undef,undef,undef,undef,undef,undef,undef,undef,undef,undef,undef,undef,undef,undef,undef,undef,undef,undef,undef,undef,undef,undef,undef],defers := [] } W := by
          intro W acc v e f g h X1 Y1 ga1 gb1 T h8
          rw [← hR]
          have k0 := h8.cell0
          have k1 := h8.cell1
          have k2 := h8.cell2
          have k3 := h8.cell3
          have k4 := h8.cell4
          have k5 := h8.cell5
          refine wpAnyIn_ready (rs := [0]) (by kernel_rfl) (by simp) (AllReadyIn.cons rfl (fun K hK => ?_) (AllReadyIn.nil))
          · go_simp; exact hK _ _ (U _ _ _ _ (H2 W acc v e f g h X1 Y1 ga1 gb1 T h8))
        have H5 : ∀ (W : World) (acc : Below (q + 5) W6 W) (S0 : BezS A B M q p7 p8 X Y ga gb T0 T1 s0 y0 q0 m0 w0 s1 y1 q1 m1 w1 W) (h8 : Row6 W p8 70 (.bool s0) (.int .u64 y0) (.slice q0 m0 w0) (.bool s1) (.int .u64 y1) (.slice q1 m1 w1)),R 4 #[false,false,false,false] { tmps := #[V0,V1,.pointer (some ⟨q,0,none⟩),.pointer (some ⟨q + 1,0,none⟩),.pointer (some ⟨q + 1 + 1,0,none⟩),.pointer (some ⟨q + 1 + 1 + 1,0,none⟩),.pointer (some ⟨q + 1 + 1 + 1 + 1,0,none⟩),.pointer (some ⟨p7,0,none⟩),.pointer (some ⟨p8,0,none⟩),undef,undef,undef,V1,.int .i64 z,.bool false,undef,undef,undef,undef,undef,undef,undef,.pointer (some ⟨q,1,none⟩),V23,x2,.pointer (some ⟨q + 1,1,none⟩),V26,x5,x6,V29,V30,V31,.pointer (some ⟨p7,1,none⟩),.slice (some ⟨gb,0,none⟩) Ly cz,.int .i64 ↑Ly,.bool true,u36,u37,u38,undef,undef,undef,undef,undef,undef,undef,undef,undef,undef,undef,undef,undef,undef,undef,undef,undef,undef,undef,undef,undef,undef,undef,undef,undef,undef,undef,undef,undef,undef,undef,undef,undef,undef,undef,undef,undef,undef,undef,undef],defers := [] } W := by
          intro W acc S0 h8
          rw [← hR]
          have k0 := h8.cell0
          have k1 := h8.cell1
          have k2 := h8.cell2
          have k3 := h8.cell3
          have k4 := h8.cell4
          have k5 := h8.cell5
          refine wpAnyIn_ready (rs := [0,1]) (by kernel_rfl) (by simp) (AllReadyIn.cons rfl (fun K hK => ?_) (AllReadyIn.cons rfl (fun K hK => ?_) (AllReadyIn.nil)))
          · go_simp; exact hK _ _ (U _ _ _ _ (H3 W acc S0 h8))
          · go_simp
            gi_wp2_with (refine ⟨trivial,?_⟩; gi_at_call 34; refine (callsIn_wide.2 (step_any p7 ga gb X Y W S0.hE (by omega))).mono ?_; rintro rr W2 hst; obtain ⟨v,e,f,g,h,X1,Y1,ga1,gb1,rfl,T,h8',acc'⟩ := S0.turn h8 acc w6 l7 n87 hBM hY hst)
            exact U _ _ _ _ (H4 W2 acc' v e f g h X1 Y1 ga1 gb1 T h8')
        exact H5 wr.drew acc.drew S0.drew h8.drew
      · obtain rfl : Y = 0 := by omega
        have hL : ys.length = 0 := by
          apply Classical.byContradiction
          intro h
          have h1 := ((wb.row wy vy ty).len h).1
          have h2 := pw_pos (ys.length - 1)
          omega
        have hX : X = Nat.gcd A B := by have := S0.gc; simpa using this
        have hXp : 0 < X := by rw [hX]; exact Nat.gcd_pos_of_pos_right A hB0
        obtain rfl := wa.1
        obtain ⟨La,hLa⟩ : ∃ L,xs.length = L := ⟨_,rfl⟩
        obtain ⟨Ca,hCa⟩ : ∃ c,La + za = c := ⟨_,rfl⟩
        have nb : ∀ W',Below wr.heap.size wr W' → Calls Tryz.prog 35 #[.slice (some ⟨ga,0,none⟩) La Ca] W' (RetNat X W') := by
          intro W' hb'
          have h := number_all ga 23 La Ca (xs ++ List.replicate za 0) W' (wa.2.below hb' wa.2.lt) (by rw [List.length_append]; omega) (by omega) (wx.append (Words.replicate za))
          rw [seg_all,List.take_left'] at h
          · rw [vx] at h; exact h
          · exact hLa
        rw [hL] at c1
        rw [hLa,hCa] at eb
        have gi0 := S0.i0
        have inv := S0.inv
        have xM := S0.xM
        have lga := S0.la
        obtain ⟨cz,hcz⟩ : ∃ c,0 + zb = c := ⟨_,rfl⟩
        rw [hL,hcz] at eb
        rw [hcz] at c1
        have wsz := acc.size
        replace ra := ra.below acc (by omega)
        replace rb := rb.below acc (by omega)
        replace rc4 := rc4.below acc (by omega)
        replace rc5 := rc5.below acc (by omega)
        replace rc6 := rc6.below acc (by omega)
        have bw := b1.trans (acc.mono (by have := Hq.out; omega))
        have dc54 : q + 1 + 1 + 1 ≠ q + 1 + 1 := by omega
        have dc45 : q + 1 + 1 ≠ q + 1 + 1 + 1 := by omega
        have oq : ∀ a,q0 = some a → ¬ (a.block = q + 1 + 1 ∨ a.block = q + 1 + 1 + 1)  := fun a h => by have := (S0.o0 a h).2.2.2.2; omega
        have n8E : ¬ (p8 = q + 1 + 1 ∨ p8 = q + 1 + 1 + 1) := by omega
        clear wa wb wx wy vx vy tx ty lx ly nab nea neb hL hLa hCa S0 acc b1 hcz hY
        go_wp2_with fail
        clear c1
        refine wpIn_wide (n := 5) |>.1 ?_
        refine region_rg [⟨some 39,[],[0],false,none,[],[],false,false,false⟩,⟨some 40,[(0,some 39)],[1],false,none,[],[],false,true,false⟩,⟨some 41,[(1,some 40)],[2],false,none,[],[],false,true,false⟩,⟨some 42,[(2,some 41)],[3],false,none,[],[],false,false,false⟩,⟨some 43,[],[4],false,none,[],[],false,false,false⟩,⟨some 44,[(4,some 43)],[5],false,none,[],[],false,false,false⟩,⟨none,[(3,some 42)],[],false,none,[],[0,1,2],true,true,true⟩,⟨none,[(5,some 44),(6,none)],[],false,none,[6],[0,1,2,3,4],true,false,true⟩] [Spec.lit (.pointer (some ⟨p7,0,none⟩)),Spec.lit (.slice (some ⟨ga,0,none⟩) La Ca),Spec.nat (X : Int),Spec.int (X : Int),Spec.lit (.pointer (some ⟨p8,0,none⟩)),Spec.lit (.agg #[.bool s0,.int .u64 y0,.slice q0 m0 w0]),Spec.last (fun vs w => ∃ g3 x3 p3 l3 k3,(Row3 w (q + 1 + 1) (.bool g3) (.int .u64 x3) (.slice p3 l3 k3) ∧ Row3 w (q + 1 + 1 + 1) (.bool false) (.int .u64 0) (.slice none 0 0)) ∧ IsInt w (.agg #[.bool g3,.int .u64 x3,.slice p3 l3 k3]) (X : Int)) (fun _ _ _ ⟨_,_,_,_,_,⟨h1,h2⟩,t⟩ m => ⟨_,_,_,_,_,⟨h1.below m h1.lt,h2.below m h2.lt⟩,t.below m⟩),Spec.last (fun vs w => ∃ g3 x3 p3 l3 k3,((Row3 w (q + 1 + 1) (.bool g3) (.int .u64 x3) (.slice p3 l3 k3) ∧ Row3 w (q + 1 + 1 + 1) (.bool s0) (.int .u64 y0) (.slice q0 m0 w0)) ∧ IsInt w (.agg #[.bool g3,.int .u64 x3,.slice p3 l3 k3]) (X : Int)) ∧ IsInt w (.agg #[.bool s0,.int .u64 y0,.slice q0 m0 w0]) T0) (fun _ _ _ ⟨_,_,_,_,_,⟨⟨h1,h2⟩,t⟩,s⟩ m => ⟨_,_,_,_,_,⟨⟨h1.below m h1.lt,h2.below m h2.lt⟩,t.below m⟩,s.below m⟩)] [] (fun k => k = q + 1 + 1 ∨ k = q + 1 + 1 + 1) [0,1,2,3,4,5,6,7] [7] (by kernel_rfl) rfl (by kernel_rfl) rfl (fun p h => h.elim (fun h => h ▸ rc4.lt) (fun h => h ▸ rc5.lt)) rfl (by kernel_rfl) [(0,some 39),(1,some 40),(2,some 41),(3,some 42),(4,some 43),(5,some 44),(6,none),(7,none)] rfl (AllRuns.cons (some 39) [] [0] rfl rfl rfl rfl none rfl _ _ rfl rfl ?_ (AllRuns.cons (some 40) [(0,some 39)] [1] rfl rfl rfl rfl none rfl _ _ rfl rfl ?_ (AllRuns.cons (some 41) [(1,some 40)] [2] rfl rfl rfl rfl none rfl _ _ rfl rfl ?_ (AllRuns.cons (some 42) [(2,some 41)] [3] rfl rfl rfl rfl none rfl _ _ rfl rfl ?_ (AllRuns.cons (some 43) [] [4] rfl rfl rfl rfl none rfl _ _ rfl rfl ?_ (AllRuns.cons (some 44) [(4,some 43)] [5] rfl rfl rfl rfl none rfl _ _ rfl rfl ?_ (AllRuns.cons none [(3,some 42)] [] rfl rfl rfl rfl none rfl _ _ rfl rfl ?_ (AllRuns.cons none [(5,some 44),(6,none)] [] rfl rfl rfl rfl none rfl _ _ rfl rfl ?_ (AllRuns.nil))))))))) ?_
        · rintro env W hB - K hK
          simp only [fill,Act.put,List.setIfInBounds_toArray,List.set_cons_zero,List.set_cons_succ] at hK ⊢
          go_simp; exact hid hK _ _ (Below.refl _ _) rfl (novar rfl)
        · rintro env W hB ⟨h0,-⟩ K hK
          have e0 : env 0 = .pointer (some ⟨p7,0,none⟩) := h0
          simp only [fill,Act.put,List.setIfInBounds_toArray,List.set_cons_zero,List.set_cons_succ,e0] at hK ⊢
          have acc := Base.bx hB
          have rr := eb.below acc eb.lt
          have d0 := rr.cell0
          go_simp; exact hid hK _ _ (Below.refl _ _) rfl (novar rfl)
        · rintro env W hB ⟨h1,-⟩ K hK
          have e1 : env 1 = .slice (some ⟨ga,0,none⟩) La Ca := h1
          simp only [fill,Act.put,List.setIfInBounds_toArray,List.set_cons_zero,List.set_cons_succ,e1] at hK ⊢
          have acc := Base.bx hB
          go_simp
          gi_wp2_with (refine ⟨trivial,?_⟩; gi_at_call 35; refine (callsIn_wide.2 (nb W acc)).mono ?_; rintro e W2 ⟨v9,rfl,i9,hb⟩)
          exact hid hK _ _ hb i9 (novar rfl)
        · rintro env W hB ⟨h2,-⟩ K hK
          replace h2 : IsNat W (env 2) X := h2
          obtain ⟨x2n,p2n,l2n,k2n,e2⟩ := IsNat.shape h2
          simp only [fill,Act.put,List.setIfInBounds_toArray,List.set_cons_zero,List.set_cons_succ,e2] at hK ⊢
          go_simp; exact hid hK _ _ (Below.refl _ _) (IsInt.ofNat (e2 ▸ h2)) (novar rfl)
        · rintro env W hB - K hK
          simp only [fill,Act.put,List.setIfInBounds_toArray,List.set_cons_zero,List.set_cons_succ] at hK ⊢
          go_simp; exact hid hK _ _ (Below.refl _ _) rfl (novar rfl)
        · rintro env W hB ⟨h4,-⟩ K hK
          have e4 : env 4 = .pointer (some ⟨p8,0,none⟩) := h4
          simp only [fill,Act.put,List.setIfInBounds_toArray,List.set_cons_zero,List.set_cons_succ,e4] at hK ⊢
          have rr : Row6 W p8 70 (.bool s0) (.int .u64 y0) (.slice q0 m0 w0) (.bool s1) (.int .u64 y1) (.slice q1 m1 w1) := (hB.2.2.2.2 p8 h8.lt n8E).trans h8
          have d0 := rr.cell0
          have d1 := rr.cell1
          have d2 := rr.cell2
          go_simp; exact hid hK _ _ (Below.refl _ _) rfl (novar rfl)
        · rintro env W hB ⟨h3,-⟩ K hK
          obtain ⟨g3,x3,p3,l3,k3,e3,n3⟩ := IsInt.cells h3
          replace e3 : env 3 = _ := e3
          simp only [fill,Act.put,List.setIfInBounds_toArray,List.set_cons_zero,List.set_cons_succ,e3] at hK ⊢
          have acc := Base.bx hB
          have r4 := rc4.below acc rc4.lt
          have r5 := rc5.below acc rc5.lt
          have j0 := r4.free 0
          have j1 := r4.free 1
          have j2 := r4.free 2
          have d0 := r4.cell0
          have d1 := r4.cell1
          have d2 := r4.cell2
          have tr := Row3.touch r4 (.bool g3) (.int .u64 x3) p3 l3 k3
          go_simp
          exact hid hK undef _ ⟨q + 1 + 1,.inl rfl,tr.1⟩ ⟨_,_,_,_,_,⟨tr.2,((r5.other (a := ⟨q + 1 + 1,0,none⟩) dc54 _).other (a := ⟨q + 1 + 1,1,none⟩) dc54 _).other (a := ⟨q + 1 + 1,2,none⟩) dc54 _⟩,n3.touch tr.1⟩ (novar rfl)
        · rintro env W hB ⟨h5,h6,-⟩ K hK
          have e5 : env 5 = .agg #[.bool s0,.int .u64 y0,.slice q0 m0 w0] := h5
          simp only [fill,Act.put,List.setIfInBounds_toArray,List.set_cons_zero,List.set_cons_succ,e5] at hK ⊢
          obtain ⟨g3,x3,p3,l3,k3,⟨r4,r5⟩,n3⟩ := h6
          have j0 := r5.free 0
          have j1 := r5.free 1
          have j2 := r5.free 2
          have d0 := r5.cell0
          have d1 := r5.cell1
          have d2 := r5.cell2
          have tr := Row3.touch r5 (.bool s0) (.int .u64 y0) q0 m0 w0
          have i5 : IsInt W (.agg #[.bool s0,.int .u64 y0,.slice q0 m0 w0]) T0 := gi0.base hB oq
          go_simp
          exact hid hK undef _ ⟨q + 1 + 1 + 1,.inr rfl,tr.1⟩ ⟨_,_,_,_,_,⟨⟨((r4.other (a := ⟨q + 1 + 1 + 1,0,none⟩) dc45 _).other (a := ⟨q + 1 + 1 + 1,1,none⟩) dc45 _).other (a := ⟨q + 1 + 1 + 1,2,none⟩) dc45 _,tr.2⟩,n3.touch tr.1⟩,i5.touch tr.1⟩ (novar rfl)
        · rintro env W8 hB ⟨h7,-⟩ hv hap
          obtain ⟨g8,x8,p8n,l8,k8,⟨⟨r4,r5⟩,n8⟩,i5⟩ := h7
          simp only [fill,Act.put,List.setIfInBounds_toArray,List.set_cons_zero,List.set_cons_succ]
          generalize env 0 = t70
          generalize env 1 = t71
          generalize env 2 = t72
          generalize env 3 = t73
          generalize env 4 = t74
          generalize env 5 = t75
          have oO : Only wr W8 (fun k => k = q + 1 + 1 ∨ k = q + 1 + 1 + 1) := hB
          have lra := ra.lt
          replace bw : Below w.heap.size w W8 := bw.trans (oO.toBelow (by have := Hq.out; omega) (by rintro k (h | h) <;> (have := Hq.out; omega)))
          replace ra : Row3 W8 q (.bool bA) (.int .u64 xA) (.slice pA lA cA) := (oO.2.2.2.2 q lra (by omega)).trans ra
          replace rb : Row3 W8 (q + 1) (.bool bB) (.int .u64 xB) (.slice pB lB cB) := (oO.2.2.2.2 (q + 1) rb.lt (by omega)).trans rb
          replace rc6 : Row3 W8 (q + 1 + 1 + 1 + 1) (.bool false) (.int .u64 0) (.slice none 0 0) := (oO.2.2.2.2 (q + 1 + 1 + 1 + 1) rc6.lt (by omega)).trans rc6
          clear oO hB hv hap eb h8 nb gi0 oq n8E rc4 rc5
          have c0 := ra.cell0
          go_upto_if 46 with fail
          go_cut [] from 47 to 48 (fun wx => ∃ bX xX pX lX kX,Row3 wx q (.bool bA) (.int .u64 xA) (.slice pA lA cA) ∧ Row3 wx (q + 1) (.bool bB) (.int .u64 xB) (.slice pB lB cB) ∧ Row3 wx (q + 1 + 1) (.bool g8) (.int .u64 x8) (.slice p8n l8 k8) ∧ Row3 wx (q + 1 + 1 + 1) (.bool bX) (.int .u64 xX) (.slice pX lX kX) ∧ Row3 wx (q + 1 + 1 + 1 + 1) (.bool false) (.int .u64 0) (.slice none 0 0) ∧ IsInt wx (.agg #[.bool g8,.int .u64 x8,.slice p8n l8 k8]) X ∧ IsInt wx (.agg #[.bool bX,.int .u64 xX,.slice pX lX kX]) (if a < 0 then -T0 else T0) ∧ Below w.heap.size w wx)
          case first =>
            have hfl : Hid (bA = decide (a < 0)) := Lib.hid jA.flag
            clear c0
            cases bA
            · go_wp2_with fail
              go_meet
              exact ⟨s0,y0,q0,m0,w0,ra,rb,r4,r5,rc6,n8,by rw [if_neg (by have := hfl.out; simpa using this)]; exact i5,bw⟩
            · have d0 := r5.cell0
              have d1 := r5.cell1
              have d2 := r5.cell2
              go_wp2_with fail
              clear d0 d1 d2
              refine (neg_int _ T0 W8 i5).mono ?_
              rintro e W9 ⟨v9,rfl,i9,b9⟩
              obtain ⟨bX,xX,pX,lX,kX,rfl,i9'⟩ := i9.cells
              clear i9
              replace r5 := r5.below b9 r5.lt
              replace r4 := r4.below b9 r4.lt
              replace ra := ra.below b9 ra.lt
              replace rb := rb.below b9 rb.lt
              replace rc6 := rc6.below b9 rc6.lt
              replace n8 := n8.below b9
              replace bw := below_acc bw bw.size b9
              have d0 := r5.cell0
              have d1 := r5.cell1
              have d2 := r5.cell2
              have f0 := r5.free 0
              have f1 := r5.free 1
              have f2 := r5.free 2
              have tr := Row3.touch r5 (.bool bX) (.int .u64 xX) pX lX kX
              go_wp2_with fail
              go_meet
              exact ⟨bX,xX,pX,lX,kX,((ra.other (a := ⟨q + 1 + 1 + 1,0,none⟩) (by show q ≠ q + 1 + 1 + 1; omega) _).other (a := ⟨q + 1 + 1 + 1,1,none⟩) (by show q ≠ q + 1 + 1 + 1; omega) _).other (a := ⟨q + 1 + 1 + 1,2,none⟩) (by show q ≠ q + 1 + 1 + 1; omega) _,((rb.other (a := ⟨q + 1 + 1 + 1,0,none⟩) (by show q + 1 ≠ q + 1 + 1 + 1; omega) _).other (a := ⟨q + 1 + 1 + 1,1,none⟩) (by show q + 1 ≠ q + 1 + 1 + 1; omega) _).other (a := ⟨q + 1 + 1 + 1,2,none⟩) (by show q + 1 ≠ q + 1 + 1 + 1; omega) _,((r4.other (a := ⟨q + 1 + 1 + 1,0,none⟩) dc45 _).other (a := ⟨q + 1 + 1 + 1,1,none⟩) dc45 _).other (a := ⟨q + 1 + 1 + 1,2,none⟩) dc45 _,tr.2,((rc6.other (a := ⟨q + 1 + 1 + 1,0,none⟩) (by show q + 1 + 1 + 1 + 1 ≠ q + 1 + 1 + 1; omega) _).other (a := ⟨q + 1 + 1 + 1,1,none⟩) (by show q + 1 + 1 + 1 + 1 ≠ q + 1 + 1 + 1; omega) _).other (a := ⟨q + 1 + 1 + 1,2,none⟩) (by show q + 1 + 1 + 1 + 1 ≠ q + 1 + 1 + 1; omega) _,n8.touch tr.1,by rw [if_pos (by have := hfl.out; simpa using this.symm)]; exact i9'.touch tr.1,below_touch3 bw tr.1 (by have := Hq.out; omega)⟩
          case rest =>
            obtain ⟨bX,xX,pX,lX,kX,ra,rb,r4,r5,rc6,n8,iX,bw⟩ := hcut
            have hup := pw_upp M
            have hpM := pw_pos M
            have hBW : (B : Int) < pw (M + 1) := by omega
            have hXW : (X : Int) < pw (M + 1) := by omega
            have one : (1 : Int) < pw (M + 1) := by omega
            have aX : absI (X : Int) = X := by unfold absI; rw [if_neg (by omega)]
            have aB : absI (B : Int) = B := by unfold absI; rw [if_neg (by omega)]
            have abB : absI b = (B : Int) := by rw [absI_nat,HB.out]
            have abA : absI a = (A : Int) := by rw [absI_nat,HA.out]
            have nBw := jB.nat
            rw [abB] at nBw
            have nB := IsInt.ofNat (nBw.below bw)
            have c0 := rb.cell1
            have c1 := rb.cell2
            have d0 := r4.cell0
            have d1 := r4.cell1
            have d2 := r4.cell2
            go_wp2_with fail
            clear c0 c1 d0 d1 d2
            refine (div_gen (M + 1) (by omega) _ _ (B : Int) (X : Int) wc nB n8 (by rw [aB]; exact hBW) (by rw [aX]; exact hXW) one).mono ?_
            rintro e W10 ⟨v1,v2,ok,rfl,-,i1,i2,b10⟩
            obtain ⟨g1,x1,p1,l1,k1,rfl,iP⟩ := i1.cells
            obtain ⟨g2n,x2n,p2n,l2n,k2n,rfl,iP2⟩ := i2.cells
            clear i1 i2 iP2
            have b11 : Below W10.heap.size W10 ((W10.alloc (.cells #[.bool g1,.int .u64 x1,.slice p1 l1 k1] 28)).alloc (.cells #[.bool g2n,.int .u64 x2n,.slice p2n l2n k2n] 28)) := by go_grown
            have h9 := (Row3.new W10 (.bool g1) (.int .u64 x1) (.slice p1 l1 k1) W10.heap.size rfl).alloc (.cells #[.bool g2n,.int .u64 x2n,.slice p2n l2n k2n] 28)
            replace iP := iP.below b11
            replace b10 := below_acc b10 b10.size b11
            clear b11
            replace r5 := r5.below b10 r5.lt
            replace r4 := r4.below b10 r4.lt
            replace ra := ra.below b10 ra.lt
            replace rb := rb.below b10 rb.lt
            replace rc6 := rc6.below b10 rc6.lt
            replace n8 := n8.below b10
            replace iX := iX.below b10
            replace bw := below_acc bw bw.size b10
            clear b10
            have c0 := h9.cell0
            have c1 := h9.cell1
            have c2 := h9.cell2
            have d0 := r5.cell0
            have d1 := r5.cell1
            have d2 := r5.cell2
            go_wp2_with fail
            generalize (W10.alloc (.cells #[.bool g1,.int .u64 x1,.slice p1 l1 k1] 28)).alloc (.cells #[.bool g2n,.int .u64 x2n,.slice p2n l2n k2n] 28) = W11 at h9 iP r5 r4 ra rb rc6 n8 iX bw ⊢
            clear c0 c1 c2 d0 d1 d2 h9
            have hgd : (X : Int) ∣ a := by rw [hX,← HA.out,← HB.out]; exact Int.gcd_dvd_left a b
            have hgd2 : (X : Int) ∣ b := by rw [hX,← HA.out,← HB.out]; exact Int.gcd_dvd_right a b
            have hT0 : absI b ∣ (X : Int) - T0 * absI a := by
              obtain ⟨s,u,v,-,-,-,-,-,-,-,-,h,-⟩ := inv
              rw [abA,abB]; exact h
            obtain ⟨hPp,hfin⟩ := bez_final hb0 (show (0 : Int) < X by omega) hgd hgd2 hT0
            rw [abB] at hPp hfin
            have hPle : qD (B : Int) (X : Int) ≤ B := by
              have h1 := qrD (a := (B : Int)) (b := (X : Int)) (by omega)
              have h2 := rD_pos (a := (B : Int)) (b := (X : Int)) (by omega)
              have h3 : qD (B : Int) (X : Int) * 1 ≤ qD (B : Int) (X : Int) * X := Int.mul_le_mul_of_nonneg_left (by omega) (by omega)
              omega
            obtain ⟨PP,hPP⟩ : ∃ PP,qD (B : Int) (X : Int) = PP := ⟨_,rfl⟩
            rw [hPP] at hPp hfin hPle iP
            have hx0 : absI (if a < 0 then -T0 else T0) < pw (M + 1) := by
              have := inv.end
              have h : absI (if a < 0 then -T0 else T0) ≤ 4294967296 * B := absI_le_of (by split <;> omega) (by split <;> omega)
              omega
            obtain ⟨x0n,hx0n⟩ : ∃ x0n,(if a < 0 then -T0 else T0) = x0n := ⟨_,rfl⟩
            rw [hx0n] at iX hfin hx0
            have aP : absI PP = PP := by unfold absI; rw [if_neg (by omega)]
            refine (div_gen (M + 1) (by omega) _ _ x0n PP W11 iX iP hx0 (by rw [aP]; omega) one).mono ?_
            rintro e W12 ⟨v1,v2,ok2,rfl,-,-,i2,b10⟩
            obtain ⟨g9,x9,p9,l9,k9,rfl,iR⟩ := i2.cells
            clear i2
            replace r5 := r5.below b10 r5.lt
            replace r4 := r4.below b10 r4.lt
            replace ra := ra.below b10 ra.lt
            replace rb := rb.below b10 rb.lt
            replace rc6 := rc6.below b10 rc6.lt
            replace n8 := n8.below b10
            replace bw := below_acc bw bw.size b10
            clear b10 iX iP
            have d0 := r5.cell0
            have d1 := r5.cell1
            have d2 := r5.cell2
            have f0 := r5.free 0
            have f1 := r5.free 1
            have f2 := r5.free 2
            have tr := Row3.touch r5 (.bool g9) (.int .u64 x9) p9 l9 k9
            replace iR := iR.touch tr.1
            replace n8 := n8.touch tr.1
            replace bw := below_touch3 bw tr.1 (by have := Hq.out; omega)
            replace ra := ((ra.other (a := ⟨q + 1 + 1 + 1,0,none⟩) (by show q ≠ q + 1 + 1 + 1; omega) (.bool g9)).other (a := ⟨q + 1 + 1 + 1,1,none⟩) (by show q ≠ q + 1 + 1 + 1; omega) (.int .u64 x9)).other (a := ⟨q + 1 + 1 + 1,2,none⟩) (by show q ≠ q + 1 + 1 + 1; omega) (.slice p9 l9 k9)
            replace rb := ((rb.other (a := ⟨q + 1 + 1 + 1,0,none⟩) (by show q + 1 ≠ q + 1 + 1 + 1; omega) (.bool g9)).other (a := ⟨q + 1 + 1 + 1,1,none⟩) (by show q + 1 ≠ q + 1 + 1 + 1; omega) (.int .u64 x9)).other (a := ⟨q + 1 + 1 + 1,2,none⟩) (by show q + 1 ≠ q + 1 + 1 + 1; omega) (.slice p9 l9 k9)
            replace r4 := ((r4.other (a := ⟨q + 1 + 1 + 1,0,none⟩) dc45 (.bool g9)).other (a := ⟨q + 1 + 1 + 1,1,none⟩) dc45 (.int .u64 x9)).other (a := ⟨q + 1 + 1 + 1,2,none⟩) dc45 (.slice p9 l9 k9)
            replace rc6 := ((rc6.other (a := ⟨q + 1 + 1 + 1,0,none⟩) (by show q + 1 + 1 + 1 + 1 ≠ q + 1 + 1 + 1; omega) (.bool g9)).other (a := ⟨q + 1 + 1 + 1,1,none⟩) (by show q + 1 + 1 + 1 + 1 ≠ q + 1 + 1 + 1; omega) (.int .u64 x9)).other (a := ⟨q + 1 + 1 + 1,2,none⟩) (by show q + 1 + 1 + 1 + 1 ≠ q + 1 + 1 + 1; omega) (.slice p9 l9 k9)
            replace r5 := tr.2
            go_wp2_with fail
            clear d0 d1 d2 f0 f1 f2 tr
            generalize ((W12.setCell ⟨q + 1 + 1 + 1,0,none⟩ (.bool g9)).setCell ⟨q + 1 + 1 + 1,1,none⟩ (.int .u64 x9)).setCell ⟨q + 1 + 1 + 1,2,none⟩ (.slice p9 l9 k9) = W12 at iR n8 bw ra rb r4 rc6 r5 ⊢
            have hR := rD_pos (a := x0n) hPp
            obtain ⟨x1n,hx1n⟩ : ∃ x1n,rD x0n PP = x1n := ⟨_,rfl⟩
            rw [hx1n] at iR hfin hR
            have aR : absI x1n = x1n := by unfold absI; rw [if_neg (by omega)]
            have mm0 : ∀ W,Below W12.heap.size W12 W → Calls Tryz.prog 19 #[.agg #[.bool bA,.int .u64 xA,.slice pA lA cA],.agg #[.bool g9,.int .u64 x9,.slice p9 l9 k9]] W (RetInt (a * x1n) W) := fun W hW =>
              mul_int (M + 1) (by omega) (by omega) _ _ a x1n W (jA.below (below_acc bw bw.size hW)) (iR.below hW) (by rw [abA]; omega) (by rw [aR]; omega)
            have hml : absI (a * x1n) < pw (M + 1 + (M + 1)) := absI_mul_lt (by rw [abA]; omega) (by rw [aR]; omega)
            have hpp := pw_mono (show M + 1 ≤ M + 1 + (M + 1) by omega)
            have ms0 : ∀ v W,Below W12.heap.size W12 W → IsInt W v (a * x1n) → Calls Tryz.prog 37 #[.agg #[.bool g8,.int .u64 x8,.slice p8n l8 k8],v] W (RetInt (X - a * x1n) W) := fun v W hW hv =>
              sub_int (M + 1 + (M + 1)) (by omega) (by omega) _ _ X (a * x1n) W (n8.below hW) hv (by rw [aX]; omega) hml
            have hsl : absI ((X : Int) - a * x1n) < pw (M + 1 + (M + 1) + 1) := by
              have h1 := pw_upp (M + 1 + (M + 1))
              have h2 := pw_pos (M + 1 + (M + 1))
              have h3 := absI_nonneg (a * x1n)
              have h4 : absI ((X : Int) - a * x1n) ≤ X + absI (a * x1n) := by unfold absI; split <;> split <;> omega
              omega
            have md0 : ∀ v W,Below W12.heap.size W12 W → IsInt W v (X - a * x1n) → Calls Tryz.prog 26 #[v,.agg #[.bool bB,.int .u64 xB,.slice pB lB cB]] W fun e w' => ∃ v1 v2,e = .returned (.tuple #[v1,v2,.bool true]) ∧ IsInt w' v1 (qD (X - a * x1n) b) ∧ IsInt w' v2 (rD (X - a * x1n) b) ∧ Below W.heap.size W w' := by
              intro v W hW hv
              have hpq := pw_mono (show M + 1 ≤ M + 1 + (M + 1) + 1 by omega)
              refine (div_gen (M + 1 + (M + 1) + 1) (by omega) _ _ _ b W hv (jB.below (below_acc bw bw.size hW)) hsl (by rw [abB]; omega) (by omega)).mono ?_
              rintro e w' ⟨v1,v2,ok,rfl,hok,h1,h2,hb⟩
              obtain rfl : ok = true := by rw [hok]; exact decide_eq_true hb0
              exact ⟨_,_,rfl,h1,h2,hb⟩
            clear hml hpp hsl
            obtain ⟨m1n,hm1⟩ : ∃ m,a * x1n = m := ⟨_,rfl⟩
            rw [hm1] at ms0 md0 hfin
            have mm := mm0
            rw [hm1] at mm
            clear mm0
            obtain ⟨s1n,hs1⟩ : ∃ m,(X : Int) - m1n = m := ⟨_,rfl⟩
            have ms := ms0
            have md := md0
            rw [hs1] at ms md hfin
            clear ms0 md0
            obtain ⟨y1n,hy1⟩ : ∃ m,qD s1n b = m := ⟨_,rfl⟩
            obtain ⟨z1n,hz1⟩ : ∃ m,rD s1n b = m := ⟨_,rfl⟩
            rw [hy1] at md hfin
            rw [hz1] at md
            clear hm1 hs1 hy1 hz1 hx1n
            refine wpIn_wide (n := 5) |>.1 ?_
            refine region_rg [⟨some 66,[],[0],false,none,[],[],false,true,false⟩,⟨some 67,[],[1],false,none,[],[],false,true,false⟩,⟨some 68,[],[2],false,none,[],[],false,true,false⟩,⟨some 69,[(1,some 67),(2,some 68)],[3],false,none,[],[],false,true,false⟩,⟨some 70,[(0,some 66),(3,some 69)],[4],false,none,[],[],false,true,false⟩,⟨some 71,[],[5],false,none,[],[],false,true,false⟩,⟨some 72,[(4,some 70),(5,some 71)],[6],false,none,[],[],false,true,false⟩,⟨some 65,[(6,some 72)],[7],false,none,[],[],false,false,false⟩,⟨some 73,[(7,some 65)],[8],false,none,[],[],false,false,false⟩,⟨some 74,[(7,some 65)],[9],false,none,[],[],false,false,false⟩,⟨some 75,[(7,some 65)],[10],false,none,[],[],false,false,false⟩,⟨none,[(8,some 73)],[],false,none,[],[0,1,2,3,4,5,6,7],true,true,true⟩] [Spec.lit (.agg #[.bool g8,.int .u64 x8,.slice p8n l8 k8]),Spec.lit (.agg #[.bool bA,.int .u64 xA,.slice pA lA cA]),Spec.lit (.agg #[.bool g9,.int .u64 x9,.slice p9 l9 k9]),Spec.int m1n,Spec.int s1n,Spec.lit (.agg #[.bool bB,.int .u64 xB,.slice pB lB cB]),Spec.two (fun v w => IsInt w v y1n) (fun v w => IsInt w v z1n) (.bool true) (fun _ _ _ h b => h.below b) (fun _ _ _ h b => h.below b) (fun _ _ _ _ h t => h.touch t) (fun _ _ _ _ h t => h.touch t),Spec.two (fun v w => IsInt w v y1n) (fun v w => IsInt w v z1n) (.bool true) (fun _ _ _ h b => h.below b) (fun _ _ _ h b => h.below b) (fun _ _ _ _ h t => h.touch t) (fun _ _ _ _ h t => h.touch t),Spec.int y1n,Spec.int z1n,Spec.lit (.bool true),Spec.last (fun vs w => ∃ g8n x8n p8m l8n k8n,Row3 w (q + 1 + 1 + 1 + 1) (.bool g8n) (.int .u64 x8n) (.slice p8m l8n k8n) ∧ IsInt w (.agg #[.bool g8n,.int .u64 x8n,.slice p8m l8n k8n]) y1n ∧ IsInt w (.agg #[.bool g8,.int .u64 x8,.slice p8n l8 k8]) X ∧ IsInt w (.agg #[.bool g9,.int .u64 x9,.slice p9 l9 k9]) x1n) (fun _ _ _ ⟨_,_,_,_,_,h1,t,t2,t3⟩ m => ⟨_,_,_,_,_,h1.below m h1.lt,t.below m,t2.below m,t3.below m⟩)] [] (fun k => k = q + 1 + 1 + 1 + 1) [0,1,2,3,4,5,6,7,8,9,10,11] [11] (by kernel_rfl) rfl (by kernel_rfl) rfl (fun p h => (show p = q + 1 + 1 + 1 + 1 from h) ▸ rc6.lt) rfl (by kernel_rfl) [(0,some 66),(1,some 67),(2,some 68),(3,some 69),(4,some 70),(5,some 71),(6,some 72),(7,some 65),(8,some 73),(9,some 74),(10,some 75),(11,none)] rfl (AllRuns.cons (some 66) [] [0] rfl rfl rfl rfl none rfl _ _ rfl rfl ?_ (AllRuns.cons (some 67) [] [1] rfl rfl rfl rfl none rfl _ _ rfl rfl ?_ (AllRuns.cons (some 68) [] [2] rfl rfl rfl rfl none rfl _ _ rfl rfl ?_ (AllRuns.cons (some 69) [(1,some 67),(2,some 68)] [3] rfl rfl rfl rfl none rfl _ _ rfl rfl ?_ (AllRuns.cons (some 70) [(0,some 66),(3,some 69)] [4] rfl rfl rfl rfl none rfl _ _ rfl rfl ?_ (AllRuns.cons (some 71) [] [5] rfl rfl rfl rfl none rfl _ _ rfl rfl ?_ (AllRuns.cons (some 72) [(4,some 70),(5,some 71)] [6] rfl rfl rfl rfl none rfl _ _ rfl rfl ?_ (AllRuns.cons (some 65) [(6,some 72)] [7] rfl rfl rfl rfl none rfl _ _ rfl rfl ?_ (AllRuns.cons (some 73) [(7,some 65)] [8] rfl rfl rfl rfl none rfl _ _ rfl rfl ?_ (AllRuns.cons (some 74) [(7,some 65)] [9] rfl rfl rfl rfl none rfl _ _ rfl rfl ?_ (AllRuns.cons (some 75) [(7,some 65)] [10] rfl rfl rfl rfl none rfl _ _ rfl rfl ?_ (AllRuns.cons none [(8,some 73)] [] rfl rfl rfl rfl none rfl _ _ rfl rfl ?_ (AllRuns.nil))))))))))))) ?_
            · rintro env W hB - K hK
              simp only [fill,Act.put,List.setIfInBounds_toArray,List.set_cons_zero,List.set_cons_succ] at hK ⊢
              have acc := Base.bx hB
              have rr := r4.below acc r4.lt
              have d0 := rr.cell0
              have d1 := rr.cell1
              have d2 := rr.cell2
              go_simp; exact hid hK _ _ (Below.refl _ _) rfl (novar rfl)
            · rintro env W hB - K hK
              simp only [fill,Act.put,List.setIfInBounds_toArray,List.set_cons_zero,List.set_cons_succ] at hK ⊢
              have acc := Base.bx hB
              have rr := ra.below acc ra.lt
              have d0 := rr.cell0
              have d1 := rr.cell1
              have d2 := rr.cell2
              go_simp; exact hid hK _ _ (Below.refl _ _) rfl (novar rfl)
            · rintro env W hB - K hK
              simp only [fill,Act.put,List.setIfInBounds_toArray,List.set_cons_zero,List.set_cons_succ] at hK ⊢
              have acc := Base.bx hB
              have rr := r5.below acc r5.lt
              have d0 := rr.cell0
              have d1 := rr.cell1
              have d2 := rr.cell2
              go_simp; exact hid hK _ _ (Below.refl _ _) rfl (novar rfl)
            · rintro env W hB ⟨h1,h2,-⟩ K hK
              have e1 : env 1 = .agg #[.bool bA,.int .u64 xA,.slice pA lA cA] := h1
              have e2 : env 2 = .agg #[.bool g9,.int .u64 x9,.slice p9 l9 k9] := h2
              simp only [fill,Act.put,List.setIfInBounds_toArray,List.set_cons_zero,List.set_cons_succ,e1,e2] at hK ⊢
              have acc := Base.bx hB
              go_simp
              gi_wp2_with (refine ⟨trivial,?_⟩; gi_at_call 19; refine (callsIn_wide.2 (mm W acc)).mono ?_; rintro e W2 ⟨v9n,rfl,i9n,hb⟩)
              exact hid hK _ _ hb i9n (novar rfl)
            · rintro env W hB ⟨h0,h3,-⟩ K hK
              have e0 : env 0 = .agg #[.bool g8,.int .u64 x8,.slice p8n l8 k8] := h0
              obtain ⟨ga3,xa3,pa3,la3,ka3,e3,i3⟩ := IsInt.cells h3
              replace e3 : env 3 = _ := e3
              simp only [fill,Act.put,List.setIfInBounds_toArray,List.set_cons_zero,List.set_cons_succ,e0,e3] at hK ⊢
              have acc := Base.bx hB
              go_simp
              gi_wp2_with (refine ⟨trivial,?_⟩; gi_at_call 37; refine (callsIn_wide.2 (ms _ W acc i3)).mono ?_; rintro e W2 ⟨v9n,rfl,i9n,hb⟩)
              exact hid hK _ _ hb i9n (novar rfl)
            · rintro env W hB - K hK
              simp only [fill,Act.put,List.setIfInBounds_toArray,List.set_cons_zero,List.set_cons_succ] at hK ⊢
              have acc := Base.bx hB
              have rr := rb.below acc rb.lt
              have d0 := rr.cell0
              have d1 := rr.cell1
              have d2 := rr.cell2
              go_simp; exact hid hK _ _ (Below.refl _ _) rfl (novar rfl)
            · rintro env W hB ⟨h4,h5,-⟩ K hK
              obtain ⟨ga4,xa4,pa4,la4,ka4,e4,i4⟩ := IsInt.cells h4
              replace e4 : env 4 = _ := e4
              have e5 : env 5 = .agg #[.bool bB,.int .u64 xB,.slice pB lB cB] := h5
              simp only [fill,Act.put,List.setIfInBounds_toArray,List.set_cons_zero,List.set_cons_succ,e4,e5] at hK ⊢
              have acc := Base.bx hB
              go_simp
              gi_wp2_with (refine ⟨trivial,?_⟩; gi_at_call 26; refine (callsIn_wide.2 (md _ W acc i4)).mono ?_; rintro e W2 ⟨v9n,u9n,rfl,i9n,j9n,hb⟩)
              exact hid hK _ _ hb ⟨_,_,rfl,i9n,j9n⟩ (novar rfl)
            · rintro env W hB ⟨h6,-⟩ K hK
              obtain ⟨u6,v6,e6,a6,b6⟩ := h6
              replace e6 : env 6 = .tuple #[u6,v6,.bool true] := e6
              simp only [fill,Act.put,List.setIfInBounds_toArray,List.set_cons_zero,List.set_cons_succ,e6] at hK ⊢
              go_simp; exact hid hK _ _ (Below.refl _ _) ⟨_,_,e6 ▸ rfl,a6,b6⟩ (novar rfl)
            · rintro env W hB ⟨h7,-⟩ K hK
              obtain ⟨u7,v7,e7,a7,b7⟩ := h7
              replace e7 : env 7 = .tuple #[u7,v7,.bool true] := e7
              simp only [fill,Act.put,List.setIfInBounds_toArray,List.set_cons_zero,List.set_cons_succ,e7] at hK ⊢
              go_simp; exact hid hK _ _ (Below.refl _ _) a7 (novar rfl)
            · rintro env W hB ⟨h7,-⟩ K hK
              obtain ⟨u7,v7,e7,a7,b7⟩ := h7
              replace e7 : env 7 = .tuple #[u7,v7,.bool true] := e7
              simp only [fill,Act.put,List.setIfInBounds_toArray,List.set_cons_zero,List.set_cons_succ,e7] at hK ⊢
              go_simp; exact hid hK _ _ (Below.refl _ _) b7 (novar rfl)
            · rintro env W hB ⟨h7,-⟩ K hK
              obtain ⟨u7,v7,e7,a7,b7⟩ := h7
              replace e7 : env 7 = .tuple #[u7,v7,.bool true] := e7
              simp only [fill,Act.put,List.setIfInBounds_toArray,List.set_cons_zero,List.set_cons_succ,e7] at hK ⊢
              go_simp; exact hid hK _ _ (Below.refl _ _) rfl (novar rfl)
            · rintro env W hB ⟨h8,-⟩ K hK
              obtain ⟨g8n,x8n,p8m,l8n,k8n,e8,n8n⟩ := IsInt.cells h8
              replace e8 : env 8 = _ := e8
              simp only [fill,Act.put,List.setIfInBounds_toArray,List.set_cons_zero,List.set_cons_succ,e8] at hK ⊢
              have acc := Base.bx hB
              have r6 := rc6.below acc rc6.lt
              have j0 := r6.free 0
              have j1 := r6.free 1
              have j2 := r6.free 2
              have d0 := r6.cell0
              have d1 := r6.cell1
              have d2 := r6.cell2
              have tr := Row3.touch r6 (.bool g8n) (.int .u64 x8n) p8m l8n k8n
              go_simp
              exact hid hK undef _ ⟨q + 1 + 1 + 1 + 1,rfl,tr.1⟩ ⟨_,_,_,_,_,tr.2,n8n.touch tr.1,(n8.below acc).touch tr.1,(iR.below acc).touch tr.1⟩ (novar rfl)
            · rintro env W13 hB ⟨h11,-⟩ hv hap
              obtain ⟨gY,xY,pY,lY,kY,r6,iY,n8',iR'⟩ := h11
              simp only [fill,Act.put,List.setIfInBounds_toArray,List.set_cons_zero,List.set_cons_succ]
              have oO : Only W12 W13 (fun k => k = q + 1 + 1 + 1 + 1) := hB
              replace bw : Below w.heap.size w W13 := bw.trans (oO.toBelow bw.size (by rintro k h; have h : k = q + 1 + 1 + 1 + 1 := h; have := Hq.out; omega))
              replace r4 : Row3 W13 (q + 1 + 1) (.bool g8) (.int .u64 x8) (.slice p8n l8 k8) := (oO.2.2.2.2 _ r4.lt (by show ¬ q + 1 + 1 = q + 1 + 1 + 1 + 1; omega)).trans r4
              replace r5 : Row3 W13 (q + 1 + 1 + 1) (.bool g9) (.int .u64 x9) (.slice p9 l9 k9) := (oO.2.2.2.2 _ r5.lt (by show ¬ q + 1 + 1 + 1 = q + 1 + 1 + 1 + 1; omega)).trans r5
              clear oO hB hv hap mm ms md n8 iR ra rb rc6
              have F := BezF.mk (q := q) (z4 := X) (z5 := x1n) (z6 := y1n) r4 r5 r6 n8' iR' iY bw Hq.out
              clear r4 r5 r6 n8' iR' iY bw
              generalize env 0 = t12
              generalize env 1 = t13
              generalize env 2 = t14
              generalize env 3 = t15
              generalize env 4 = t16
              generalize env 5 = t17
              generalize env 6 = t18
              generalize env 7 = t19
              generalize env 8 = t20
              generalize env 9 = t21
              generalize env 10 = t22
              go_wp2_with fail
              refine wpIn_wide (n := 5) |>.1 ?_
              refine region_ways (by kernel_rfl) fun R hR => ?_
              have U := fun (n : Nat) (l : Array Bool) (a : Act) (w : World) (h : R n l a w) => cast (congrFun (congrFun (congrFun (congrFun hR.symm n) l) a) w) h
              have H0 : ∀ (W : World) (F : BezF w q g8 x8 p8n l8 k8 g9 x9 p9 l9 k9 gY xY pY lY kY X x1n y1n W),R 0 #[true,true,true,true,true,true] { tmps := #[V0,V1,.pointer (some ⟨q,0,none⟩),.pointer (some ⟨q + 1,0,none⟩),.pointer (some ⟨q + 1 + 1,0,none⟩),.pointer (some ⟨q + 1 + 1 + 1,0,none⟩),.pointer (some ⟨q + 1 + 1 + 1 + 1,0,none⟩),.pointer (some ⟨p7,0,none⟩),.pointer (some ⟨p8,0,none⟩),.pointer (some ⟨W10.heap.size,0,none⟩),.pointer (some ⟨W10.heap.size + 1,0,none⟩),.bool ok,V1,.int .i64 z,.bool false,undef,undef,undef,undef,undef,undef,undef,.pointer (some ⟨q,1,none⟩),V23,x2,.pointer (some ⟨q + 1,1,none⟩),V26,x5,x6,V29,V30,V31,.pointer (some ⟨p7,1,none⟩),.slice (some ⟨gb,0,none⟩) 0 cz,.int .i64 0,.bool false,u36,u37,u38,t70,t71,t72,t73,t74,t75,.pointer (some ⟨q,0,none⟩),.bool bA,u47,u48,.tuple #[.agg #[.bool g1,.int .u64 x1,.slice p1 l1 k1],.agg #[.bool g2n,.int .u64 x2n,.slice p2n l2n k2n],.bool ok],.pointer (some ⟨q + 1,1,none⟩),.agg #[.int .u64 xB,.slice pB lB cB],.agg #[.bool false,.int .u64 xB,.slice pB lB cB],.agg #[.bool g8,.int .u64 x8,.slice p8n l8 k8],.tuple #[.agg #[.bool g1,.int .u64 x1,.slice p1 l1 k1],.agg #[.bool g2n,.int .u64 x2n,.slice p2n l2n k2n],.bool ok],.agg #[.bool g1,.int .u64 x1,.slice p1 l1 k1],.agg #[.bool g2n,.int .u64 x2n,.slice p2n l2n k2n],.bool ok,.tuple #[v1,.agg #[.bool g9,.int .u64 x9,.slice p9 l9 k9],.bool ok2],.agg #[.bool bX,.int .u64 xX,.slice pX lX kX],.agg #[.bool g1,.int .u64 x1,.slice p1 l1 k1],.tuple #[v1,.agg #[.bool g9,.int .u64 x9,.slice p9 l9 k9],.bool ok2],v1,.agg #[.bool g9,.int .u64 x9,.slice p9 l9 k9],.bool ok2,t19,t12,t13,t14,t15,t16,t17,t18,t20,t21,t22,.agg #[.bool g8,.int .u64 x8,.slice p8n l8 k8],.agg #[.bool g9,.int .u64 x9,.slice p9 l9 k9],.agg #[.bool gY,.int .u64 xY,.slice pY lY kY]],defers := [] } W := by
                intro W F
                rw [← hR]
                refine wpAnyIn_done (by kernel_rfl) ?_ _
                go_wp2_with fail
                exact bodyPost_III Tryz.results11 rfl rfl rfl rfl F.r4 F.r5 F.r6 ⟨x1n,y1n,⟨_,_,_,rfl,by rw [show (Int.gcd a b : Nat) = X by rw [hX,← HA.out,← HB.out]; rfl]; exact F.i4,F.i5,F.i6,F.bw⟩,by rw [show (Int.gcd a b : Nat) = X by rw [hX,← HA.out,← HB.out]; rfl]; exact hfin⟩
              have H1 : ∀ (W : World) (F : BezF w q g8 x8 p8n l8 k8 g9 x9 p9 l9 k9 gY xY pY lY kY X x1n y1n W),R 1 #[true,true,true,true,true,false] { tmps := #[V0,V1,.pointer (some ⟨q,0,none⟩),.pointer (some ⟨q + 1,0,none⟩),.pointer (some ⟨q + 1 + 1,0,none⟩),.pointer (some ⟨q + 1 + 1 + 1,0,none⟩),.pointer (some ⟨q + 1 + 1 + 1 + 1,0,none⟩),.pointer (some ⟨p7,0,none⟩),.pointer (some ⟨p8,0,none⟩),.pointer (some ⟨W10.heap.size,0,none⟩),.pointer (some ⟨W10.heap.size + 1,0,none⟩),.bool ok,V1,.int .i64 z,.bool false,undef,undef,undef,undef,undef,undef,undef,.pointer (some ⟨q,1,none⟩),V23,x2,.pointer (some ⟨q + 1,1,none⟩),V26,x5,x6,V29,V30,V31,.pointer (some ⟨p7,1,none⟩),.slice (some ⟨gb,0,none⟩) 0 cz,.int .i64 0,.bool false,u36,u37,u38,t70,t71,t72,t73,t74,t75,.pointer (some ⟨q,0,none⟩),.bool bA,u47,u48,.tuple #[.agg #[.bool g1,.int .u64 x1,.slice p1 l1 k1],.agg #[.bool g2n,.int .u64 x2n,.slice p2n l2n k2n],.bool ok],.pointer (some ⟨q + 1,1,none⟩),.agg #[.int .u64 xB,.slice pB lB cB],.agg #[.bool false,.int .u64 xB,.slice pB lB cB],.agg #[.bool g8,.int .u64 x8,.slice p8n l8 k8],.tuple #[.agg #[.bool g1,.int .u64 x1,.slice p1 l1 k1],.agg #[.bool g2n,.int .u64 x2n,.slice p2n l2n k2n],.bool ok],.agg #[.bool g1,.int .u64 x1,.slice p1 l1 k1],.agg #[.bool g2n,.int .u64 x2n,.slice p2n l2n k2n],.bool ok,.tuple #[v1,.agg #[.bool g9,.int .u64 x9,.slice p9 l9 k9],.bool ok2],.agg #[.bool bX,.int .u64 xX,.slice pX lX kX],.agg #[.bool g1,.int .u64 x1,.slice p1 l1 k1],.tuple #[v1,.agg #[.bool g9,.int .u64 x9,.slice p9 l9 k9],.bool ok2],v1,.agg #[.bool g9,.int .u64 x9,.slice p9 l9 k9],.bool ok2,t19,t12,t13,t14,t15,t16,t17,t18,t20,t21,t22,.agg #[.bool g8,.int .u64 x8,.slice p8n l8 k8],.agg #[.bool g9,.int .u64 x9,.slice p9 l9 k9],.agg #[.bool gY,.int .u64 xY,.slice pY lY kY]],defers := [] } W := by
                intro W F
                rw [← hR]
                have d00 := F.r4.cell0
                have d01 := F.r4.cell1
                have d02 := F.r4.cell2
                have f00 := F.r4.free 0
                have f01 := F.r4.free 1
                have f02 := F.r4.free 2
                have d10 := F.r5.cell0
                have d11 := F.r5.cell1
                have d12 := F.r5.cell2
                have f10 := F.r5.free 0
                have f11 := F.r5.free 1
                have f12 := F.r5.free 2
                have d20 := F.r6.cell0
                have d21 := F.r6.cell1
                have d22 := F.r6.cell2
                have f20 := F.r6.free 0
                have f21 := F.r6.free 1
                have f22 := F.r6.free 2
                refine wpAnyIn_ready (rs := [5]) (by kernel_rfl) (by simp) (AllReadyIn.cons rfl (fun K hK => ?_) (AllReadyIn.nil))
                · go_simp; exact hK _ _ (U _ _ _ _ (H0 (((W.setCell ⟨q + 1 + 1 + 1 + 1,0,none⟩ (.bool gY)).setCell ⟨q + 1 + 1 + 1 + 1,1,none⟩ (.int .u64 xY)).setCell ⟨q + 1 + 1 + 1 + 1,2,none⟩ (.slice pY lY kY)) F.set6))
              have H2 : ∀ (W : World) (F : BezF w q g8 x8 p8n l8 k8 g9 x9 p9 l9 k9 gY xY pY lY kY X x1n y1n W),R 2 #[true,true,true,true,false,false] { tmps := #[V0,V1,.pointer (some ⟨q,0,none⟩),.pointer (some ⟨q + 1,0,none⟩),.pointer (some ⟨q + 1 + 1,0,none⟩),.pointer (some ⟨q + 1 + 1 + 1,0,none⟩),.pointer (some ⟨q + 1 + 1 + 1 + 1,0,none⟩),.pointer (some ⟨p7,0,none⟩),.pointer (some ⟨p8,0,none⟩),.pointer (some ⟨W10.heap.size,0,none⟩),.pointer (some ⟨W10.heap.size + 1,0,none⟩),.bool ok,V1,.int .i64 z,.bool false,undef,undef,undef,undef,undef,undef,undef,.pointer (some ⟨q,1,none⟩),V23,x2,.pointer (some ⟨q + 1,1,none⟩),V26,x5,x6,V29,V30,V31,.pointer (some ⟨p7,1,none⟩),.slice (some ⟨gb,0,none⟩) 0 cz,.int .i64 0,.bool false,u36,u37,u38,t70,t71,t72,t73,t74,t75,.pointer (some ⟨q,0,none⟩),.bool bA,u47,u48,.tuple #[.agg #[.bool g1,.int .u64 x1,.slice p1 l1 k1],.agg #[.bool g2n,.int .u64 x2n,.slice p2n l2n k2n],.bool ok],.pointer (some ⟨q + 1,1,none⟩),.agg #[.int .u64 xB,.slice pB lB cB],.agg #[.bool false,.int .u64 xB,.slice pB lB cB],.agg #[.bool g8,.int .u64 x8,.slice p8n l8 k8],.tuple #[.agg #[.bool g1,.int .u64 x1,.slice p1 l1 k1],.agg #[.bool g2n,.int .u64 x2n,.slice p2n l2n k2n],.bool ok],.agg #[.bool g1,.int .u64 x1,.slice p1 l1 k1],.agg #[.bool g2n,.int .u64 x2n,.slice p2n l2n k2n],.bool ok,.tuple #[v1,.agg #[.bool g9,.int .u64 x9,.slice p9 l9 k9],.bool ok2],.agg #[.bool bX,.int .u64 xX,.slice pX lX kX],.agg #[.bool g1,.int .u64 x1,.slice p1 l1 k1],.tuple #[v1,.agg #[.bool g9,.int .u64 x9,.slice p9 l9 k9],.bool ok2],v1,.agg #[.bool g9,.int .u64 x9,.slice p9 l9 k9],.bool ok2,t19,t12,t13,t14,t15,t16,t17,t18,t20,t21,t22,.agg #[.bool g8,.int .u64 x8,.slice p8n l8 k8],.agg #[.bool g9,.int .u64 x9,.slice p9 l9 k9],.agg #[.bool gY,.int .u64 xY,.slice pY lY kY]],defers := [] } W := by
                intro W F
                rw [← hR]
                have d00 := F.r4.cell0
                have d01 := F.r4.cell1
                have d02 := F.r4.cell2
                have f00 := F.r4.free 0
                have f01 := F.r4.free 1
                have f02 := F.r4.free 2
                have d10 := F.r5.cell0
                have d11 := F.r5.cell1
                have d12 := F.r5.cell2
                have f10 := F.r5.free 0
                have f11 := F.r5.free 1
                have f12 := F.r5.free 2
                have d20 := F.r6.cell0
                have d21 := F.r6.cell1
                have d22 := F.r6.cell2
                have f20 := F.r6.free 0
                have f21 := F.r6.free 1
                have f22 := F.r6.free 2
                refine wpAnyIn_ready (rs := [4]) (by kernel_rfl) (by simp) (AllReadyIn.cons rfl (fun K hK => ?_) (AllReadyIn.nil))
                · go_simp; exact hK _ _ (U _ _ _ _ (H1 (((W.setCell ⟨q + 1 + 1 + 1,0,none⟩ (.bool g9)).setCell ⟨q + 1 + 1 + 1,1,none⟩ (.int .u64 x9)).setCell ⟨q + 1 + 1 + 1,2,none⟩ (.slice p9 l9 k9)) F.set5))
              have H3 : ∀ (W : World) (F : BezF w q g8 x8 p8n l8 k8 g9 x9 p9 l9 k9 gY xY pY lY kY X x1n y1n W),R 3 #[true,true,true,false,false,false] { tmps := #[V0,V1,.pointer (some ⟨q,0,none⟩),.pointer (some ⟨q + 1,0,none⟩),.pointer (some ⟨q + 1 + 1,0,none⟩),.pointer (some ⟨q + 1 + 1 + 1,0,none⟩),.pointer (some ⟨q + 1 + 1 + 1 + 1,0,none⟩),.pointer (some ⟨p7,0,none⟩),.pointer (some ⟨p8,0,none⟩),.pointer (some ⟨W10.heap.size,0,none⟩),.pointer (some ⟨W10.heap.size + 1,0,none⟩),.bool ok,V1,.int .i64 z,.bool false,undef,undef,undef,undef,undef,undef,undef,.pointer (some ⟨q,1,none⟩),V23,x2,.pointer (some ⟨q + 1,1,none⟩),V26,x5,x6,V29,V30,V31,.pointer (some ⟨p7,1,none⟩),.slice (some ⟨gb,0,none⟩) 0 cz,.int .i64 0,.bool false,u36,u37,u38,t70,t71,t72,t73,t74,t75,.pointer (some ⟨q,0,none⟩),.bool bA,u47,u48,.tuple #[.agg #[.bool g1,.int .u64 x1,.slice p1 l1 k1],.agg #[.bool g2n,.int .u64 x2n,.slice p2n l2n k2n],.bool ok],.pointer (some ⟨q + 1,1,none⟩),.agg #[.int .u64 xB,.slice pB lB cB],.agg #[.bool false,.int .u64 xB,.slice pB lB cB],.agg #[.bool g8,.int .u64 x8,.slice p8n l8 k8],.tuple #[.agg #[.bool g1,.int .u64 x1,.slice p1 l1 k1],.agg #[.bool g2n,.int .u64 x2n,.slice p2n l2n k2n],.bool ok],.agg #[.bool g1,.int .u64 x1,.slice p1 l1 k1],.agg #[.bool g2n,.int .u64 x2n,.slice p2n l2n k2n],.bool ok,.tuple #[v1,.agg #[.bool g9,.int .u64 x9,.slice p9 l9 k9],.bool ok2],.agg #[.bool bX,.int .u64 xX,.slice pX lX kX],.agg #[.bool g1,.int .u64 x1,.slice p1 l1 k1],.tuple #[v1,.agg #[.bool g9,.int .u64 x9,.slice p9 l9 k9],.bool ok2],v1,.agg #[.bool g9,.int .u64 x9,.slice p9 l9 k9],.bool ok2,t19,t12,t13,t14,t15,t16,t17,t18,t20,t21,t22,.agg #[.bool g8,.int .u64 x8,.slice p8n l8 k8],.agg #[.bool g9,.int .u64 x9,.slice p9 l9 k9],.agg #[.bool gY,.int .u64 xY,.slice pY lY kY]],defers := [] } W := by
                intro W F
                rw [← hR]
                have d00 := F.r4.cell0
                have d01 := F.r4.cell1
                have d02 := F.r4.cell2
                have f00 := F.r4.free 0
                have f01 := F.r4.free 1
                have f02 := F.r4.free 2
                have d10 := F.r5.cell0
                have d11 := F.r5.cell1
                have d12 := F.r5.cell2
                have f10 := F.r5.free 0
                have f11 := F.r5.free 1
                have f12 := F.r5.free 2
                have d20 := F.r6.cell0
                have d21 := F.r6.cell1
                have d22 := F.r6.cell2
                have f20 := F.r6.free 0
                have f21 := F.r6.free 1
                have f22 := F.r6.free 2
                refine wpAnyIn_ready (rs := [3]) (by kernel_rfl) (by simp) (AllReadyIn.cons rfl (fun K hK => ?_) (AllReadyIn.nil))
                · go_simp; exact hK _ _ (U _ _ _ _ (H2 (((W.setCell ⟨q + 1 + 1,0,none⟩ (.bool g8)).setCell ⟨q + 1 + 1,1,none⟩ (.int .u64 x8)).setCell ⟨q + 1 + 1,2,none⟩ (.slice p8n l8 k8)) F.set4))
              have H4 : ∀ (W : World) (F : BezF w q g8 x8 p8n l8 k8 g9 x9 p9 l9 k9 gY xY pY lY kY X x1n y1n W),R 2 #[true,true,false,true,true,false] { tmps := #[V0,V1,.pointer (some ⟨q,0,none⟩),.pointer (some ⟨q + 1,0,none⟩),.pointer (some ⟨q + 1 + 1,0,none⟩),.pointer (some ⟨q + 1 + 1 + 1,0,none⟩),.pointer (some ⟨q + 1 + 1 + 1 + 1,0,none⟩),.pointer (some ⟨p7,0,none⟩),.pointer (some ⟨p8,0,none⟩),.pointer (some ⟨W10.heap.size,0,none⟩),.pointer (some ⟨W10.heap.size + 1,0,none⟩),.bool ok,V1,.int .i64 z,.bool false,undef,undef,undef,undef,undef,undef,undef,.pointer (some ⟨q,1,none⟩),V23,x2,.pointer (some ⟨q + 1,1,none⟩),V26,x5,x6,V29,V30,V31,.pointer (some ⟨p7,1,none⟩),.slice (some ⟨gb,0,none⟩) 0 cz,.int .i64 0,.bool false,u36,u37,u38,t70,t71,t72,t73,t74,t75,.pointer (some ⟨q,0,none⟩),.bool bA,u47,u48,.tuple #[.agg #[.bool g1,.int .u64 x1,.slice p1 l1 k1],.agg #[.bool g2n,.int .u64 x2n,.slice p2n l2n k2n],.bool ok],.pointer (some ⟨q + 1,1,none⟩),.agg #[.int .u64 xB,.slice pB lB cB],.agg #[.bool false,.int .u64 xB,.slice pB lB cB],.agg #[.bool g8,.int .u64 x8,.slice p8n l8 k8],.tuple #[.agg #[.bool g1,.int .u64 x1,.slice p1 l1 k1],.agg #[.bool g2n,.int .u64 x2n,.slice p2n l2n k2n],.bool ok],.agg #[.bool g1,.int .u64 x1,.slice p1 l1 k1],.agg #[.bool g2n,.int .u64 x2n,.slice p2n l2n k2n],.bool ok,.tuple #[v1,.agg #[.bool g9,.int .u64 x9,.slice p9 l9 k9],.bool ok2],.agg #[.bool bX,.int .u64 xX,.slice pX lX kX],.agg #[.bool g1,.int .u64 x1,.slice p1 l1 k1],.tuple #[v1,.agg #[.bool g9,.int .u64 x9,.slice p9 l9 k9],.bool ok2],v1,.agg #[.bool g9,.int .u64 x9,.slice p9 l9 k9],.bool ok2,t19,t12,t13,t14,t15,t16,t17,t18,t20,t21,t22,.agg #[.bool g8,.int .u64 x8,.slice p8n l8 k8],.agg #[.bool g9,.int .u64 x9,.slice p9 l9 k9],undef],defers := [] } W := by
                intro W F
                rw [← hR]
                have d00 := F.r4.cell0
                have d01 := F.r4.cell1
                have d02 := F.r4.cell2
                have f00 := F.r4.free 0
                have f01 := F.r4.free 1
                have f02 := F.r4.free 2
                have d10 := F.r5.cell0
                have d11 := F.r5.cell1
                have d12 := F.r5.cell2
                have f10 := F.r5.free 0
                have f11 := F.r5.free 1
                have f12 := F.r5.free 2
                have d20 := F.r6.cell0
                have d21 := F.r6.cell1
                have d22 := F.r6.cell2
                have f20 := F.r6.free 0
                have f21 := F.r6.free 1
                have f22 := F.r6.free 2
                refine wpAnyIn_ready (rs := [2]) (by kernel_rfl) (by simp) (AllReadyIn.cons rfl (fun K hK => ?_) (AllReadyIn.nil))
                · go_simp; exact hK _ _ (U _ _ _ _ (H1 W F))
              have H5 : ∀ (W : World) (F : BezF w q g8 x8 p8n l8 k8 g9 x9 p9 l9 k9 gY xY pY lY kY X x1n y1n W),R 3 #[true,true,false,true,false,false] { tmps := #[V0,V1,.pointer (some ⟨q,0,none⟩),.pointer (some ⟨q + 1,0,none⟩),.pointer (some ⟨q + 1 + 1,0,none⟩),.pointer (some ⟨q + 1 + 1 + 1,0,none⟩),.pointer (some ⟨q + 1 + 1 + 1 + 1,0,none⟩),.pointer (some ⟨p7,0,none⟩),.pointer (some ⟨p8,0,none⟩),.pointer (some ⟨W10.heap.size,0,none⟩),.pointer (some ⟨W10.heap.size + 1,0,none⟩),.bool ok,V1,.int .i64 z,.bool false,undef,undef,undef,undef,undef,undef,undef,.pointer (some ⟨q,1,none⟩),V23,x2,.pointer (some ⟨q + 1,1,none⟩),V26,x5,x6,V29,V30,V31,.pointer (some ⟨p7,1,none⟩),.slice (some ⟨gb,0,none⟩) 0 cz,.int .i64 0,.bool false,u36,u37,u38,t70,t71,t72,t73,t74,t75,.pointer (some ⟨q,0,none⟩),.bool bA,u47,u48,.tuple #[.agg #[.bool g1,.int .u64 x1,.slice p1 l1 k1],.agg #[.bool g2n,.int .u64 x2n,.slice p2n l2n k2n],.bool ok],.pointer (some ⟨q + 1,1,none⟩),.agg #[.int .u64 xB,.slice pB lB cB],.agg #[.bool false,.int .u64 xB,.slice pB lB cB],.agg #[.bool g8,.int .u64 x8,.slice p8n l8 k8],.tuple #[.agg #[.bool g1,.int .u64 x1,.slice p1 l1 k1],.agg #[.bool g2n,.int .u64 x2n,.slice p2n l2n k2n],.bool ok],.agg #[.bool g1,.int .u64 x1,.slice p1 l1 k1],.agg #[.bool g2n,.int .u64 x2n,.slice p2n l2n k2n],.bool ok,.tuple #[v1,.agg #[.bool g9,.int .u64 x9,.slice p9 l9 k9],.bool ok2],.agg #[.bool bX,.int .u64 xX,.slice pX lX kX],.agg #[.bool g1,.int .u64 x1,.slice p1 l1 k1],.tuple #[v1,.agg #[.bool g9,.int .u64 x9,.slice p9 l9 k9],.bool ok2],v1,.agg #[.bool g9,.int .u64 x9,.slice p9 l9 k9],.bool ok2,t19,t12,t13,t14,t15,t16,t17,t18,t20,t21,t22,.agg #[.bool g8,.int .u64 x8,.slice p8n l8 k8],.agg #[.bool g9,.int .u64 x9,.slice p9 l9 k9],undef],defers := [] } W := by
                intro W F
                rw [← hR]
                have d00 := F.r4.cell0
                have d01 := F.r4.cell1
                have d02 := F.r4.cell2
                have f00 := F.r4.free 0
                have f01 := F.r4.free 1
                have f02 := F.r4.free 2
                have d10 := F.r5.cell0
                have d11 := F.r5.cell1
                have d12 := F.r5.cell2
                have f10 := F.r5.free 0
                have f11 := F.r5.free 1
                have f12 := F.r5.free 2
                have d20 := F.r6.cell0
                have d21 := F.r6.cell1
                have d22 := F.r6.cell2
                have f20 := F.r6.free 0
                have f21 := F.r6.free 1
                have f22 := F.r6.free 2
                refine wpAnyIn_ready (rs := [2,4]) (by kernel_rfl) (by simp) (AllReadyIn.cons rfl (fun K hK => ?_) (AllReadyIn.cons rfl (fun K hK => ?_) (AllReadyIn.nil)))
                · go_simp; exact hK _ _ (U _ _ _ _ (H2 W F))
                · go_simp; exact hK _ _ (U _ _ _ _ (H4 (((W.setCell ⟨q + 1 + 1 + 1,0,none⟩ (.bool g9)).setCell ⟨q + 1 + 1 + 1,1,none⟩ (.int .u64 x9)).setCell ⟨q + 1 + 1 + 1,2,none⟩ (.slice p9 l9 k9)) F.set5))
              have H6 : ∀ (W : World) (F : BezF w q g8 x8 p8n l8 k8 g9 x9 p9 l9 k9 gY xY pY lY kY X x1n y1n W),R 4 #[true,true,false,false,false,false] { tmps := #[V0,V1,.pointer (some ⟨q,0,none⟩),.pointer (some ⟨q + 1,0,none⟩),.pointer (some ⟨q + 1 + 1,0,none⟩),.pointer (some ⟨q + 1 + 1 + 1,0,none⟩),.pointer (some ⟨q + 1 + 1 + 1 + 1,0,none⟩),.pointer (some ⟨p7,0,none⟩),.pointer (some ⟨p8,0,none⟩),.pointer (some ⟨W10.heap.size,0,none⟩),.pointer (some ⟨W10.heap.size + 1,0,none⟩),.bool ok,V1,.int .i64 z,.bool false,undef,undef,undef,undef,undef,undef,undef,.pointer (some ⟨q,1,none⟩),V23,x2,.pointer (some ⟨q + 1,1,none⟩),V26,x5,x6,V29,V30,V31,.pointer (some ⟨p7,1,none⟩),.slice (some ⟨gb,0,none⟩) 0 cz,.int .i64 0,.bool false,u36,u37,u38,t70,t71,t72,t73,t74,t75,.pointer (some ⟨q,0,none⟩),.bool bA,u47,u48,.tuple #[.agg #[.bool g1,.int .u64 x1,.slice p1 l1 k1],.agg #[.bool g2n,.int .u64 x2n,.slice p2n l2n k2n],.bool ok],.pointer (some ⟨q + 1,1,none⟩),.agg #[.int .u64 xB,.slice pB lB cB],.agg #[.bool false,.int .u64 xB,.slice pB lB cB],.agg #[.bool g8,.int .u64 x8,.slice p8n l8 k8],.tuple #[.agg #[.bool g1,.int .u64 x1,.slice p1 l1 k1],.agg #[.bool g2n,.int .u64 x2n,.slice p2n l2n k2n],.bool ok],.agg #[.bool g1,.int .u64 x1,.slice p1 l1 k1],.agg #[.bool g2n,.int .u64 x2n,.slice p2n l2n k2n],.bool ok,.tuple #[v1,.agg #[.bool g9,.int .u64 x9,.slice p9 l9 k9],.bool ok2],.agg #[.bool bX,.int .u64 xX,.slice pX lX kX],.agg #[.bool g1,.int .u64 x1,.slice p1 l1 k1],.tuple #[v1,.agg #[.bool g9,.int .u64 x9,.slice p9 l9 k9],.bool ok2],v1,.agg #[.bool g9,.int .u64 x9,.slice p9 l9 k9],.bool ok2,t19,t12,t13,t14,t15,t16,t17,t18,t20,t21,t22,.agg #[.bool g8,.int .u64 x8,.slice p8n l8 k8],.agg #[.bool g9,.int .u64 x9,.slice p9 l9 k9],undef],defers := [] } W := by
                intro W F
                rw [← hR]
                have d00 := F.r4.cell0
                have d01 := F.r4.cell1
                have d02 := F.r4.cell2
                have f00 := F.r4.free 0
                have f01 := F.r4.free 1
                have f02 := F.r4.free 2
                have d10 := F.r5.cell0
                have d11 := F.r5.cell1
                have d12 := F.r5.cell2
                have f10 := F.r5.free 0
                have f11 := F.r5.free 1
                have f12 := F.r5.free 2
                have d20 := F.r6.cell0
                have d21 := F.r6.cell1
                have d22 := F.r6.cell2
                have f20 := F.r6.free 0
                have f21 := F.r6.free 1
                have f22 := F.r6.free 2
                refine wpAnyIn_ready (rs := [2,3]) (by kernel_rfl) (by simp) (AllReadyIn.cons rfl (fun K hK => ?_) (AllReadyIn.cons rfl (fun K hK => ?_) (AllReadyIn.nil)))
                · go_simp; exact hK _ _ (U _ _ _ _ (H3 W F))
                · go_simp; exact hK _ _ (U _ _ _ _ (H5 (((W.setCell ⟨q + 1 + 1,0,none⟩ (.bool g8)).setCell ⟨q + 1 + 1,1,none⟩ (.int .u64 x8)).setCell ⟨q + 1 + 1,2,none⟩ (.slice p8n l8 k8)) F.set4))
              have H7 : ∀ (W : World) (F : BezF w q g8 x8 p8n l8 k8 g9 x9 p9 l9 k9 gY xY pY lY kY X x1n y1n W),R 3 #[true,false,true,true,false,false] { tmps := #[V0,V1,.pointer (some ⟨q,0,none⟩),.pointer (some ⟨q + 1,0,none⟩),.pointer (some ⟨q + 1 + 1,0,none⟩),.pointer (some ⟨q + 1 + 1 + 1,0,none⟩),.pointer (some ⟨q + 1 + 1 + 1 + 1,0,none⟩),.pointer (some ⟨p7,0,none⟩),.pointer (some ⟨p8,0,none⟩),.pointer (some ⟨W10.heap.size,0,none⟩),.pointer (some ⟨W10.heap.size + 1,0,none⟩),.bool ok,V1,.int .i64 z,.bool false,undef,undef,undef,undef,undef,undef,undef,.pointer (some ⟨q,1,none⟩),V23,x2,.pointer (some ⟨q + 1,1,none⟩),V26,x5,x6,V29,V30,V31,.pointer (some ⟨p7,1,none⟩),.slice (some ⟨gb,0,none⟩) 0 cz,.int .i64 0,.bool false,u36,u37,u38,t70,t71,t72,t73,t74,t75,.pointer (some ⟨q,0,none⟩),.bool bA,u47,u48,.tuple #[.agg #[.bool g1,.int .u64 x1,.slice p1 l1 k1],.agg #[.bool g2n,.int .u64 x2n,.slice p2n l2n k2n],.bool ok],.pointer (some ⟨q + 1,1,none⟩),.agg #[.int .u64 xB,.slice pB lB cB],.agg #[.bool false,.int .u64 xB,.slice pB lB cB],.agg #[.bool g8,.int .u64 x8,.slice p8n l8 k8],.tuple #[.agg #[.bool g1,.int .u64 x1,.slice p1 l1 k1],.agg #[.bool g2n,.int .u64 x2n,.slice p2n l2n k2n],.bool ok],.agg #[.bool g1,.int .u64 x1,.slice p1 l1 k1],.agg #[.bool g2n,.int .u64 x2n,.slice p2n l2n k2n],.bool ok,.tuple #[v1,.agg #[.bool g9,.int .u64 x9,.slice p9 l9 k9],.bool ok2],.agg #[.bool bX,.int .u64 xX,.slice pX lX kX],.agg #[.bool g1,.int .u64 x1,.slice p1 l1 k1],.tuple #[v1,.agg #[.bool g9,.int .u64 x9,.slice p9 l9 k9],.bool ok2],v1,.agg #[.bool g9,.int .u64 x9,.slice p9 l9 k9],.bool ok2,t19,t12,t13,t14,t15,t16,t17,t18,t20,t21,t22,.agg #[.bool g8,.int .u64 x8,.slice p8n l8 k8],undef,.agg #[.bool gY,.int .u64 xY,.slice pY lY kY]],defers := [] } W := by
                intro W F
                rw [← hR]
                have d00 := F.r4.cell0
                have d01 := F.r4.cell1
                have d02 := F.r4.cell2
                have f00 := F.r4.free 0
                have f01 := F.r4.free 1
                have f02 := F.r4.free 2
                have d10 := F.r5.cell0
                have d11 := F.r5.cell1
                have d12 := F.r5.cell2
                have f10 := F.r5.free 0
                have f11 := F.r5.free 1
                have f12 := F.r5.free 2
                have d20 := F.r6.cell0
                have d21 := F.r6.cell1
                have d22 := F.r6.cell2
                have f20 := F.r6.free 0
                have f21 := F.r6.free 1
                have f22 := F.r6.free 2
                refine wpAnyIn_ready (rs := [1]) (by kernel_rfl) (by simp) (AllReadyIn.cons rfl (fun K hK => ?_) (AllReadyIn.nil))
                · go_simp; exact hK _ _ (U _ _ _ _ (H2 W F))
              have H8 : ∀ (W : World) (F : BezF w q g8 x8 p8n l8 k8 g9 x9 p9 l9 k9 gY xY pY lY kY X x1n y1n W),R 4 #[true,false,true,false,false,false] { tmps := #[V0,V1,.pointer (some ⟨q,0,none⟩),.pointer (some ⟨q + 1,0,none⟩),.pointer (some ⟨q + 1 + 1,0,none⟩),.pointer (some ⟨q + 1 + 1 + 1,0,none⟩),.pointer (some ⟨q + 1 + 1 + 1 + 1,0,none⟩),.pointer (some ⟨p7,0,none⟩),.pointer (some ⟨p8,0,none⟩),.pointer (some ⟨W10.heap.size,0,none⟩),.pointer (some ⟨W10.heap.size + 1,0,none⟩),.bool ok,V1,.int .i64 z,.bool false,undef,undef,undef,undef,undef,undef,undef,.pointer (some ⟨q,1,none⟩),V23,x2,.pointer (some ⟨q + 1,1,none⟩),V26,x5,x6,V29,V30,V31,.pointer (some ⟨p7,1,none⟩),.slice (some ⟨gb,0,none⟩) 0 cz,.int .i64 0,.bool false,u36,u37,u38,t70,t71,t72,t73,t74,t75,.pointer (some ⟨q,0,none⟩),.bool bA,u47,u48,.tuple #[.agg #[.bool g1,.int .u64 x1,.slice p1 l1 k1],.agg #[.bool g2n,.int .u64 x2n,.slice p2n l2n k2n],.bool ok],.pointer (some ⟨q + 1,1,none⟩),.agg #[.int .u64 xB,.slice pB lB cB],.agg #[.bool false,.int .u64 xB,.slice pB lB cB],.agg #[.bool g8,.int .u64 x8,.slice p8n l8 k8],.tuple #[.agg #[.bool g1,.int .u64 x1,.slice p1 l1 k1],.agg #[.bool g2n,.int .u64 x2n,.slice p2n l2n k2n],.bool ok],.agg #[.bool g1,.int .u64 x1,.slice p1 l1 k1],.agg #[.bool g2n,.int .u64 x2n,.slice p2n l2n k2n],.bool ok,.tuple #[v1,.agg #[.bool g9,.int .u64 x9,.slice p9 l9 k9],.bool ok2],.agg #[.bool bX,.int .u64 xX,.slice pX lX kX],.agg #[.bool g1,.int .u64 x1,.slice p1 l1 k1],.tuple #[v1,.agg #[.bool g9,.int .u64 x9,.slice p9 l9 k9],.bool ok2],v1,.agg #[.bool g9,.int .u64 x9,.slice p9 l9 k9],.bool ok2,t19,t12,t13,t14,t15,t16,t17,t18,t20,t21,t22,.agg #[.bool g8,.int .u64 x8,.slice p8n l8 k8],undef,.agg #[.bool gY,.int .u64 xY,.slice pY lY kY]],defers := [] } W := by
                intro W F
                rw [← hR]
                have d00 := F.r4.cell0
                have d01 := F.r4.cell1
                have d02 := F.r4.cell2
                have f00 := F.r4.free 0
                have f01 := F.r4.free 1
                have f02 := F.r4.free 2
                have d10 := F.r5.cell0
                have d11 := F.r5.cell1
                have d12 := F.r5.cell2
                have f10 := F.r5.free 0
                have f11 := F.r5.free 1
                have f12 := F.r5.free 2
                have d20 := F.r6.cell0
                have d21 := F.r6.cell1
                have d22 := F.r6.cell2
                have f20 := F.r6.free 0
                have f21 := F.r6.free 1
                have f22 := F.r6.free 2
                refine wpAnyIn_ready (rs := [1,3]) (by kernel_rfl) (by simp) (AllReadyIn.cons rfl (fun K hK => ?_) (AllReadyIn.cons rfl (fun K hK => ?_) (AllReadyIn.nil)))
                · go_simp; exact hK _ _ (U _ _ _ _ (H3 W F))
                · go_simp; exact hK _ _ (U _ _ _ _ (H7 (((W.setCell ⟨q + 1 + 1,0,none⟩ (.bool g8)).setCell ⟨q + 1 + 1,1,none⟩ (.int .u64 x8)).setCell ⟨q + 1 + 1,2,none⟩ (.slice p8n l8 k8)) F.set4))
              have H9 : ∀ (W : World) (F : BezF w q g8 x8 p8n l8 k8 g9 x9 p9 l9 k9 gY xY pY lY kY X x1n y1n W),R 4 #[true,false,false,true,false,false] { tmps := #[V0,V1,.pointer (some ⟨q,0,none⟩),.pointer (some ⟨q + 1,0,none⟩),.pointer (some ⟨q + 1 + 1,0,none⟩),.pointer (some ⟨q + 1 + 1 + 1,0,none⟩),.pointer (some ⟨q + 1 + 1 + 1 + 1,0,none⟩),.pointer (some ⟨p7,0,none⟩),.pointer (some ⟨p8,0,none⟩),.pointer (some ⟨W10.heap.size,0,none⟩),.pointer (some ⟨W10.heap.size + 1,0,none⟩),.bool ok,V1,.int .i64 z,.bool false,undef,undef,undef,undef,undef,undef,undef,.pointer (some ⟨q,1,none⟩),V23,x2,.pointer (some ⟨q + 1,1,none⟩),V26,x5,x6,V29,V30,V31,.pointer (some ⟨p7,1,none⟩),.slice (some ⟨gb,0,none⟩) 0 cz,.int .i64 0,.bool false,u36,u37,u38,t70,t71,t72,t73,t74,t75,.pointer (some ⟨q,0,none⟩),.bool bA,u47,u48,.tuple #[.agg #[.bool g1,.int .u64 x1,.slice p1 l1 k1],.agg #[.bool g2n,.int .u64 x2n,.slice p2n l2n k2n],.bool ok],.pointer (some ⟨q + 1,1,none⟩),.agg #[.int .u64 xB,.slice pB lB cB],.agg #[.bool false,.int .u64 xB,.slice pB lB cB],.agg #[.bool g8,.int .u64 x8,.slice p8n l8 k8],.tuple #[.agg #[.bool g1,.int .u64 x1,.slice p1 l1 k1],.agg #[.bool g2n,.int .u64 x2n,.slice p2n l2n k2n],.bool ok],.agg #[.bool g1,.int .u64 x1,.slice p1 l1 k1],.agg #[.bool g2n,.int .u64 x2n,.slice p2n l2n k2n],.bool ok,.tuple #[v1,.agg #[.bool g9,.int .u64 x9,.slice p9 l9 k9],.bool ok2],.agg #[.bool bX,.int .u64 xX,.slice pX lX kX],.agg #[.bool g1,.int .u64 x1,.slice p1 l1 k1],.tuple #[v1,.agg #[.bool g9,.int .u64 x9,.slice p9 l9 k9],.bool ok2],v1,.agg #[.bool g9,.int .u64 x9,.slice p9 l9 k9],.bool ok2,t19,t12,t13,t14,t15,t16,t17,t18,t20,t21,t22,.agg #[.bool g8,.int .u64 x8,.slice p8n l8 k8],undef,undef],defers := [] } W := by
                intro W F
                rw [← hR]
                have d00 := F.r4.cell0
                have d01 := F.r4.cell1
                have d02 := F.r4.cell2
                have f00 := F.r4.free 0
                have f01 := F.r4.free 1
                have f02 := F.r4.free 2
                have d10 := F.r5.cell0
                have d11 := F.r5.cell1
                have d12 := F.r5.cell2
                have f10 := F.r5.free 0
                have f11 := F.r5.free 1
                have f12 := F.r5.free 2
                have d20 := F.r6.cell0
                have d21 := F.r6.cell1
                have d22 := F.r6.cell2
                have f20 := F.r6.free 0
                have f21 := F.r6.free 1
                have f22 := F.r6.free 2
                refine wpAnyIn_ready (rs := [1,2]) (by kernel_rfl) (by simp) (AllReadyIn.cons rfl (fun K hK => ?_) (AllReadyIn.cons rfl (fun K hK => ?_) (AllReadyIn.nil)))
                · go_simp; exact hK _ _ (U _ _ _ _ (H5 W F))
                · go_simp; exact hK _ _ (U _ _ _ _ (H7 W F))
              have H10 : ∀ (W : World) (F : BezF w q g8 x8 p8n l8 k8 g9 x9 p9 l9 k9 gY xY pY lY kY X x1n y1n W),R 5 #[true,false,false,false,false,false] { tmps := #[V0,V1,.pointer (some ⟨q,0,none⟩),.pointer (some ⟨q + 1,0,none⟩),.pointer (some ⟨q + 1 + 1,0,none⟩),.pointer (some ⟨q + 1 + 1 + 1,0,none⟩),.pointer (some ⟨q + 1 + 1 + 1 + 1,0,none⟩),.pointer (some ⟨p7,0,none⟩),.pointer (some ⟨p8,0,none⟩),.pointer (some ⟨W10.heap.size,0,none⟩),.pointer (some ⟨W10.heap.size + 1,0,none⟩),.bool ok,V1,.int .i64 z,.bool false,undef,undef,undef,undef,undef,undef,undef,.pointer (some ⟨q,1,none⟩),V23,x2,.pointer (some ⟨q + 1,1,none⟩),V26,x5,x6,V29,V30,V31,.pointer (some ⟨p7,1,none⟩),.slice (some ⟨gb,0,none⟩) 0 cz,.int .i64 0,.bool false,u36,u37,u38,t70,t71,t72,t73,t74,t75,.pointer (some ⟨q,0,none⟩),.bool bA,u47,u48,.tuple #[.agg #[.bool g1,.int .u64 x1,.slice p1 l1 k1],.agg #[.bool g2n,.int .u64 x2n,.slice p2n l2n k2n],.bool ok],.pointer (some ⟨q + 1,1,none⟩),.agg #[.int .u64 xB,.slice pB lB cB],.agg #[.bool false,.int .u64 xB,.slice pB lB cB],.agg #[.bool g8,.int .u64 x8,.slice p8n l8 k8],.tuple #[.agg #[.bool g1,.int .u64 x1,.slice p1 l1 k1],.agg #[.bool g2n,.int .u64 x2n,.slice p2n l2n k2n],.bool ok],.agg #[.bool g1,.int .u64 x1,.slice p1 l1 k1],.agg #[.bool g2n,.int .u64 x2n,.slice p2n l2n k2n],.bool ok,.tuple #[v1,.agg #[.bool g9,.int .u64 x9,.slice p9 l9 k9],.bool ok2],.agg #[.bool bX,.int .u64 xX,.slice pX lX kX],.agg #[.bool g1,.int .u64 x1,.slice p1 l1 k1],.tuple #[v1,.agg #[.bool g9,.int .u64 x9,.slice p9 l9 k9],.bool ok2],v1,.agg #[.bool g9,.int .u64 x9,.slice p9 l9 k9],.bool ok2,t19,t12,t13,t14,t15,t16,t17,t18,t20,t21,t22,.agg #[.bool g8,.int .u64 x8,.slice p8n l8 k8],undef,undef],defers := [] } W := by
                intro W F
                rw [← hR]
                have d00 := F.r4.cell0
                have d01 := F.r4.cell1
                have d02 := F.r4.cell2
                have f00 := F.r4.free 0
                have f01 := F.r4.free 1
                have f02 := F.r4.free 2
                have d10 := F.r5.cell0
                have d11 := F.r5.cell1
                have d12 := F.r5.cell2
                have f10 := F.r5.free 0
                have f11 := F.r5.free 1
                have f12 := F.r5.free 2
                have d20 := F.r6.cell0
                have d21 := F.r6.cell1
                have d22 := F.r6.cell2
                have f20 := F.r6.free 0
                have f21 := F.r6.free 1
                have f22 := F.r6.free 2
                refine wpAnyIn_ready (rs := [1,2,3]) (by kernel_rfl) (by simp) (AllReadyIn.cons rfl (fun K hK => ?_) (AllReadyIn.cons rfl (fun K hK => ?_) (AllReadyIn.cons rfl (fun K hK => ?_) (AllReadyIn.nil))))
                · go_simp; exact hK _ _ (U _ _ _ _ (H6 W F))
                · go_simp; exact hK _ _ (U _ _ _ _ (H8 W F))
                · go_simp; exact hK _ _ (U _ _ _ _ (H9 (((W.setCell ⟨q + 1 + 1,0,none⟩ (.bool g8)).setCell ⟨q + 1 + 1,1,none⟩ (.int .u64 x8)).setCell ⟨q + 1 + 1,2,none⟩ (.slice p8n l8 k8)) F.set4))
              have H11 : ∀ (W : World) (F : BezF w q g8 x8 p8n l8 k8 g9 x9 p9 l9 k9 gY xY pY lY kY X x1n y1n W),R 4 #[false,true,true,false,false,false] { tmps := #[V0,V1,.pointer (some ⟨q,0,none⟩),.pointer (some ⟨q + 1,0,none⟩),.pointer (some ⟨q + 1 + 1,0,none⟩),.pointer (some ⟨q + 1 + 1 + 1,0,none⟩),.pointer (some ⟨q + 1 + 1 + 1 + 1,0,none⟩),.pointer (some ⟨p7,0,none⟩),.pointer (some ⟨p8,0,none⟩),.pointer (some ⟨W10.heap.size,0,none⟩),.pointer (some ⟨W10.heap.size + 1,0,none⟩),.bool ok,V1,.int .i64 z,.bool false,undef,undef,undef,undef,undef,undef,undef,.pointer (some ⟨q,1,none⟩),V23,x2,.pointer (some ⟨q + 1,1,none⟩),V26,x5,x6,V29,V30,V31,.pointer (some ⟨p7,1,none⟩),.slice (some ⟨gb,0,none⟩) 0 cz,.int .i64 0,.bool false,u36,u37,u38,t70,t71,t72,t73,t74,t75,.pointer (some ⟨q,0,none⟩),.bool bA,u47,u48,.tuple #[.agg #[.bool g1,.int .u64 x1,.slice p1 l1 k1],.agg #[.bool g2n,.int .u64 x2n,.slice p2n l2n k2n],.bool ok],.pointer (some ⟨q + 1,1,none⟩),.agg #[.int .u64 xB,.slice pB lB cB],.agg #[.bool false,.int .u64 xB,.slice pB lB cB],.agg #[.bool g8,.int .u64 x8,.slice p8n l8 k8],.tuple #[.agg #[.bool g1,.int .u64 x1,.slice p1 l1 k1],.agg #[.bool g2n,.int .u64 x2n,.slice p2n l2n k2n],.bool ok],.agg #[.bool g1,.int .u64 x1,.slice p1 l1 k1],.agg #[.bool g2n,.int .u64 x2n,.slice p2n l2n k2n],.bool ok,.tuple #[v1,.agg #[.bool g9,.int .u64 x9,.slice p9 l9 k9],.bool ok2],.agg #[.bool bX,.int .u64 xX,.slice pX lX kX],.agg #[.bool g1,.int .u64 x1,.slice p1 l1 k1],.tuple #[v1,.agg #[.bool g9,.int .u64 x9,.slice p9 l9 k9],.bool ok2],v1,.agg #[.bool g9,.int .u64 x9,.slice p9 l9 k9],.bool ok2,t19,t12,t13,t14,t15,t16,t17,t18,t20,t21,t22,undef,.agg #[.bool g9,.int .u64 x9,.slice p9 l9 k9],.agg #[.bool gY,.int .u64 xY,.slice pY lY kY]],defers := [] } W := by
                intro W F
                rw [← hR]
                have d00 := F.r4.cell0
                have d01 := F.r4.cell1
                have d02 := F.r4.cell2
                have f00 := F.r4.free 0
                have f01 := F.r4.free 1
                have f02 := F.r4.free 2
                have d10 := F.r5.cell0
                have d11 := F.r5.cell1
                have d12 := F.r5.cell2
                have f10 := F.r5.free 0
                have f11 := F.r5.free 1
                have f12 := F.r5.free 2
                have d20 := F.r6.cell0
                have d21 := F.r6.cell1
                have d22 := F.r6.cell2
                have f20 := F.r6.free 0
                have f21 := F.r6.free 1
                have f22 := F.r6.free 2
                refine wpAnyIn_ready (rs := [0]) (by kernel_rfl) (by simp) (AllReadyIn.cons rfl (fun K hK => ?_) (AllReadyIn.nil))
                · go_simp; exact hK _ _ (U _ _ _ _ (H3 W F))
              have H12 : ∀ (W : World) (F : BezF w q g8 x8 p8n l8 k8 g9 x9 p9 l9 k9 gY xY pY lY kY X x1n y1n W),R 5 #[false,true,false,false,false,false] { tmps := #[V0,V1,.pointer (some ⟨q,0,none⟩),.pointer (some ⟨q + 1,0,none⟩),.pointer (some ⟨q + 1 + 1,0,none⟩),.pointer (some ⟨q + 1 + 1 + 1,0,none⟩),.pointer (some ⟨q + 1 + 1 + 1 + 1,0,none⟩),.pointer (some ⟨p7,0,none⟩),.pointer (some ⟨p8,0,none⟩),.pointer (some ⟨W10.heap.size,0,none⟩),.pointer (some ⟨W10.heap.size + 1,0,none⟩),.bool ok,V1,.int .i64 z,.bool false,undef,undef,undef,undef,undef,undef,undef,.pointer (some ⟨q,1,none⟩),V23,x2,.pointer (some ⟨q + 1,1,none⟩),V26,x5,x6,V29,V30,V31,.pointer (some ⟨p7,1,none⟩),.slice (some ⟨gb,0,none⟩) 0 cz,.int .i64 0,.bool false,u36,u37,u38,t70,t71,t72,t73,t74,t75,.pointer (some ⟨q,0,none⟩),.bool bA,u47,u48,.tuple #[.agg #[.bool g1,.int .u64 x1,.slice p1 l1 k1],.agg #[.bool g2n,.int .u64 x2n,.slice p2n l2n k2n],.bool ok],.pointer (some ⟨q + 1,1,none⟩),.agg #[.int .u64 xB,.slice pB lB cB],.agg #[.bool false,.int .u64 xB,.slice pB lB cB],.agg #[.bool g8,.int .u64 x8,.slice p8n l8 k8],.tuple #[.agg #[.bool g1,.int .u64 x1,.slice p1 l1 k1],.agg #[.bool g2n,.int .u64 x2n,.slice p2n l2n k2n],.bool ok],.agg #[.bool g1,.int .u64 x1,.slice p1 l1 k1],.agg #[.bool g2n,.int .u64 x2n,.slice p2n l2n k2n],.bool ok,.tuple #[v1,.agg #[.bool g9,.int .u64 x9,.slice p9 l9 k9],.bool ok2],.agg #[.bool bX,.int .u64 xX,.slice pX lX kX],.agg #[.bool g1,.int .u64 x1,.slice p1 l1 k1],.tuple #[v1,.agg #[.bool g9,.int .u64 x9,.slice p9 l9 k9],.bool ok2],v1,.agg #[.bool g9,.int .u64 x9,.slice p9 l9 k9],.bool ok2,t19,t12,t13,t14,t15,t16,t17,t18,t20,t21,t22,undef,.agg #[.bool g9,.int .u64 x9,.slice p9 l9 k9],undef],defers := [] } W := by
                intro W F
                rw [← hR]
                have d00 := F.r4.cell0
                have d01 := F.r4.cell1
                have d02 := F.r4.cell2
                have f00 := F.r4.free 0
                have f01 := F.r4.free 1
                have f02 := F.r4.free 2
                have d10 := F.r5.cell0
                have d11 := F.r5.cell1
                have d12 := F.r5.cell2
                have f10 := F.r5.free 0
                have f11 := F.r5.free 1
                have f12 := F.r5.free 2
                have d20 := F.r6.cell0
                have d21 := F.r6.cell1
                have d22 := F.r6.cell2
                have f20 := F.r6.free 0
                have f21 := F.r6.free 1
                have f22 := F.r6.free 2
                refine wpAnyIn_ready (rs := [0,2]) (by kernel_rfl) (by simp) (AllReadyIn.cons rfl (fun K hK => ?_) (AllReadyIn.cons rfl (fun K hK => ?_) (AllReadyIn.nil)))
                · go_simp; exact hK _ _ (U _ _ _ _ (H6 W F))
                · go_simp; exact hK _ _ (U _ _ _ _ (H11 W F))
              have H13 : ∀ (W : World) (F : BezF w q g8 x8 p8n l8 k8 g9 x9 p9 l9 k9 gY xY pY lY kY X x1n y1n W),R 5 #[false,false,true,false,false,false] { tmps := #[V0,V1,.pointer (some ⟨q,0,none⟩),.pointer (some ⟨q + 1,0,none⟩),.pointer (some ⟨q + 1 + 1,0,none⟩),.pointer (some ⟨q + 1 + 1 + 1,0,none⟩),.pointer (some ⟨q + 1 + 1 + 1 + 1,0,none⟩),.pointer (some ⟨p7,0,none⟩),.pointer (some ⟨p8,0,none⟩),.pointer (some ⟨W10.heap.size,0,none⟩),.pointer (some ⟨W10.heap.size + 1,0,none⟩),.bool ok,V1,.int .i64 z,.bool false,undef,undef,undef,undef,undef,undef,undef,.pointer (some ⟨q,1,none⟩),V23,x2,.pointer (some ⟨q + 1,1,none⟩),V26,x5,x6,V29,V30,V31,.pointer (some ⟨p7,1,none⟩),.slice (some ⟨gb,0,none⟩) 0 cz,.int .i64 0,.bool false,u36,u37,u38,t70,t71,t72,t73,t74,t75,.pointer (some ⟨q,0,none⟩),.bool bA,u47,u48,.tuple #[.agg #[.bool g1,.int .u64 x1,.slice p1 l1 k1],.agg #[.bool g2n,.int .u64 x2n,.slice p2n l2n k2n],.bool ok],.pointer (some ⟨q + 1,1,none⟩),.agg #[.int .u64 xB,.slice pB lB cB],.agg #[.bool false,.int .u64 xB,.slice pB lB cB],.agg #[.bool g8,.int .u64 x8,.slice p8n l8 k8],.tuple #[.agg #[.bool g1,.int .u64 x1,.slice p1 l1 k1],.agg #[.bool g2n,.int .u64 x2n,.slice p2n l2n k2n],.bool ok],.agg #[.bool g1,.int .u64 x1,.slice p1 l1 k1],.agg #[.bool g2n,.int .u64 x2n,.slice p2n l2n k2n],.bool ok,.tuple #[v1,.agg #[.bool g9,.int .u64 x9,.slice p9 l9 k9],.bool ok2],.agg #[.bool bX,.int .u64 xX,.slice pX lX kX],.agg #[.bool g1,.int .u64 x1,.slice p1 l1 k1],.tuple #[v1,.agg #[.bool g9,.int .u64 x9,.slice p9 l9 k9],.bool ok2],v1,.agg #[.bool g9,.int .u64 x9,.slice p9 l9 k9],.bool ok2,t19,t12,t13,t14,t15,t16,t17,t18,t20,t21,t22,undef,undef,.agg #[.bool gY,.int .u64 xY,.slice pY lY kY]],defers := [] } W := by
                intro W F
                rw [← hR]
                have d00 := F.r4.cell0
                have d01 := F.r4.cell1
                have d02 := F.r4.cell2
                have f00 := F.r4.free 0
                have f01 := F.r4.free 1
                have f02 := F.r4.free 2
                have d10 := F.r5.cell0
                have d11 := F.r5.cell1
                have d12 := F.r5.cell2
                have f10 := F.r5.free 0
                have f11 := F.r5.free 1
                have f12 := F.r5.free 2
                have d20 := F.r6.cell0
                have d21 := F.r6.cell1
                have d22 := F.r6.cell2
                have f20 := F.r6.free 0
                have f21 := F.r6.free 1
                have f22 := F.r6.free 2
                refine wpAnyIn_ready (rs := [0,1]) (by kernel_rfl) (by simp) (AllReadyIn.cons rfl (fun K hK => ?_) (AllReadyIn.cons rfl (fun K hK => ?_) (AllReadyIn.nil)))
                · go_simp; exact hK _ _ (U _ _ _ _ (H8 W F))
                · go_simp; exact hK _ _ (U _ _ _ _ (H11 W F))
              have H14 : ∀ (W : World) (F : BezF w q g8 x8 p8n l8 k8 g9 x9 p9 l9 k9 gY xY pY lY kY X x1n y1n W),R 6 #[false,false,false,false,false,false] { tmps := #[V0,V1,.pointer (some ⟨q,0,none⟩),.pointer (some ⟨q + 1,0,none⟩),.pointer (some ⟨q + 1 + 1,0,none⟩),.pointer (some ⟨q + 1 + 1 + 1,0,none⟩),.pointer (some ⟨q + 1 + 1 + 1 + 1,0,none⟩),.pointer (some ⟨p7,0,none⟩),.pointer (some ⟨p8,0,none⟩),.pointer (some ⟨W10.heap.size,0,none⟩),.pointer (some ⟨W10.heap.size + 1,0,none⟩),.bool ok,V1,.int .i64 z,.bool false,undef,undef,undef,undef,undef,undef,undef,.pointer (some ⟨q,1,none⟩),V23,x2,.pointer (some ⟨q + 1,1,none⟩),V26,x5,x6,V29,V30,V31,.pointer (some ⟨p7,1,none⟩),.slice (some ⟨gb,0,none⟩) 0 cz,.int .i64 0,.bool false,u36,u37,u38,t70,t71,t72,t73,t74,t75,.pointer (some ⟨q,0,none⟩),.bool bA,u47,u48,.tuple #[.agg #[.bool g1,.int .u64 x1,.slice p1 l1 k1],.agg #[.bool g2n,.int .u64 x2n,.slice p2n l2n k2n],.bool ok],.pointer (some ⟨q + 1,1,none⟩),.agg #[.int .u64 xB,.slice pB lB cB],.agg #[.bool false,.int .u64 xB,.slice pB lB cB],.agg #[.bool g8,.int .u64 x8,.slice p8n l8 k8],.tuple #[.agg #[.bool g1,.int .u64 x1,.slice p1 l1 k1],.agg #[.bool g2n,.int .u64 x2n,.slice p2n l2n k2n],.bool ok],.agg #[.bool g1,.int .u64 x1,.slice p1 l1 k1],.agg #[.bool g2n,.int .u64 x2n,.slice p2n l2n k2n],.bool ok,.tuple #[v1,.agg #[.bool g9,.int .u64 x9,.slice p9 l9 k9],.bool ok2],.agg #[.bool bX,.int .u64 xX,.slice pX lX kX],.agg #[.bool g1,.int .u64 x1,.slice p1 l1 k1],.tuple #[v1,.agg #[.bool g9,.int .u64 x9,.slice p9 l9 k9],.bool ok2],v1,.agg #[.bool g9,.int .u64 x9,.slice p9 l9 k9],.bool ok2,t19,t12,t13,t14,t15,t16,t17,t18,t20,t21,t22,undef,undef,undef],defers := [] } W := by
                intro W F
                rw [← hR]
                have d00 := F.r4.cell0
                have d01 := F.r4.cell1
                have d02 := F.r4.cell2
                have f00 := F.r4.free 0
                have f01 := F.r4.free 1
                have f02 := F.r4.free 2
                have d10 := F.r5.cell0
                have d11 := F.r5.cell1
                have d12 := F.r5.cell2
                have f10 := F.r5.free 0
                have f11 := F.r5.free 1
                have f12 := F.r5.free 2
                have d20 := F.r6.cell0
                have d21 := F.r6.cell1
                have d22 := F.r6.cell2
                have f20 := F.r6.free 0
                have f21 := F.r6.free 1
                have f22 := F.r6.free 2
                refine wpAnyIn_ready (rs := [0,1,2]) (by kernel_rfl) (by simp) (AllReadyIn.cons rfl (fun K hK => ?_) (AllReadyIn.cons rfl (fun K hK => ?_) (AllReadyIn.cons rfl (fun K hK => ?_) (AllReadyIn.nil))))
                · go_simp; exact hK _ _ (U _ _ _ _ (H10 W F))
                · go_simp; exact hK _ _ (U _ _ _ _ (H12 W F))
                · go_simp; exact hK _ _ (U _ _ _ _ (H13 W F))
              exact H14 W13.drew F.drew
end Go.Proofs.YtgccgacpifebbaaGreatDoor
