/- GcdG -/
import Derived.Test.YtgccgacpifebbaaGreatDoorZb30
import Derived.Test.YtgccgacpifebbaaGreatDoorZb40
namespace Go.Proofs.YtgccgacpifebbaaGreatDoor
open Go.RowKit
set_option linter.unusedVariables false
def Spec.row2 (B K : Nat) (n : Int) : Spec := ⟨fun vs w => (∃ g L,B ≤ g ∧ L ≤ K ∧ IsRow w (vs.headD undef) g L L n ∧ ∀ g' L',vs.getD 1 undef = .slice (some ⟨g',0,none⟩) L' L' → g' ≠ g),false,false,fun _ _ _ ⟨g,L,h1,h2,h,h3⟩ b => ⟨g,L,h1,h2,h.below b,h3⟩,fun _ _ _ _ _ ⟨g,L,h1,h2,h,h3⟩ t _ => ⟨g,L,h1,h2,h.touch t,h3⟩⟩
def TwoRows2 (B K : Nat) (m n : Int) (u v : Value) (w : World) : Prop := ∃ g L g' L',(B ≤ g ∧ B ≤ g' ∧ L ≤ K ∧ L' ≤ K ∧ g ≠ g' ∧ u = .slice (some ⟨g,0,none⟩) L L ∧ v = .slice (some ⟨g',0,none⟩) L' L') ∧ IsRow w u g L L m ∧ IsRow w v g' L' L' n
theorem TwoRows2.below {B K : Nat} {m n : Int} {u v : Value} {w w' : World} (h : TwoRows2 B K m n u v w) (b : Below w.heap.size w w') : TwoRows2 B K m n u v w' := by
  obtain ⟨g,L,g',L',h0,h1,h2⟩ := h
  exact ⟨g,L,g',L',h0,h1.below b,h2.below b⟩
theorem TwoRows2.touch {B K : Nat} {m n : Int} {u v : Value} {w w' : World} {p : Nat} (h : TwoRows2 B K m n u v w) (t : Touch p w w') : TwoRows2 B K m n u v w' := by
  obtain ⟨g,L,g',L',h0,h1,h2⟩ := h
  exact ⟨g,L,g',L',h0,h1.touch t,h2.touch t⟩
def Spec.euc2 (B K : Nat) (m n : Int) : Spec := ⟨fun vs w => ∃ u v,vs.headD undef = .agg #[u,v] ∧ TwoRows2 B K m n u v w,false,false,fun _ _ _ ⟨u,v,h1,h⟩ b => ⟨u,v,h1,h.below b⟩,fun _ _ _ _ _ ⟨u,v,h1,h⟩ t _ => ⟨u,v,h1,h.touch t⟩⟩
def Spec.eucv2 (B K : Nat) (m n : Int) : Spec := .box B 68 (fun l w => ∃ u v,l = [u,v] ∧ TwoRows2 B K m n u v w) (fun _ _ _ ⟨u,v,e,h⟩ b => ⟨u,v,e,h.below b⟩) (fun _ _ _ _ ⟨u,v,e,h⟩ t => ⟨u,v,e,h.touch t⟩)
theorem row_one1 {w : World} {v : Value} {g c : Nat} {n : Int} (h : IsRow w v g 1 c n) : w.cell? ⟨g,0,none⟩ = some (.int .u64 n) := by
  obtain ⟨-,h1,l,ha,hc,hw,hv,-⟩ := h
  have hl : 1 ≤ l.length := by omega
  have e : l.getD 0 0 = n := by
    rw [← hv]
    match l,hl with
    | x :: l,_ => simp [val]
  rw [← e]
  exact ha.cell 0 (by omega)
set_option maxRecDepth 100000 in
set_option maxHeartbeats 8000000 in
theorem gcd_more (M : Nat) (hM : M ≤ 40) (ba bb p q : Bool) (xA uA xB uB : Int) (pA pB : Option Addr) (lA cA lB cB : Nat) (A B : Nat) (w : World) (hT : TabB w)
    (nA : IsNat w (.agg #[.int .u64 xA,.slice pA lA cA]) A) (nB : IsNat w (.agg #[.int .u64 xB,.slice pB lB cB]) B)
    (hsA : ∀ W,Calls Tryz.prog 47 #[.agg #[.int .u64 xA,.slice pA lA cA]] W fun e w' => e = .returned (.tuple #[.int .u64 uA,.bool p]) ∧ Below W.heap.size W w')
    (hsB : ∀ W,Calls Tryz.prog 47 #[.agg #[.int .u64 xB,.slice pB lB cB]] W fun e w' => e = .returned (.tuple #[.int .u64 uB,.bool q]) ∧ Below W.heap.size W w')
    (hpq : (p && q) = false) (hAK : (A : Int) < pw M) (hBK : (B : Int) < pw M) (hB0 : B ≠ 0) :
    Calls Tryz.prog 17 #[.agg #[.bool ba,.int .u64 xA,.slice pA lA cA],.agg #[.bool bb,.int .u64 xB,.slice pB lB cB]] w (RetNat (Nat.gcd A B : Nat) w) := by
  have hdv := fun W h1 h2 => div_any M (by omega) (.agg #[.int .u64 xA,.slice pA lA cA]) (.agg #[.int .u64 xB,.slice pB lB cB]) A B W h1 h2 hAK (by omega)
  have hgc : Hid (Nat.gcd A B = Nat.gcd B (A % B)) := by
    exact Lib.hid ((Nat.gcd_comm A B).trans ((Nat.gcd_rec B A).trans (Nat.gcd_comm _ _)))
  have hrK : ((A % B : Nat) : Int) < pw M := by have := Nat.mod_lt A (show B > 0 by omega); omega
  rw [show (A : Int) % (B : Int) = ((A % B : Nat) : Int) from rfl] at hdv
  obtain ⟨R,hR⟩ : ∃ R,A % B = R := ⟨_,rfl⟩
  rw [hR] at hdv hgc hrK
  generalize (A : Int) / (B : Int) = Q at hdv
  clear hR hAK
  obtain ⟨O,hO⟩ : ∃ O,((w.alloc (.cells #[.bool ba,.int .u64 xA,.slice pA lA cA] 28)).alloc (.cells #[.bool bb,.int .u64 xB,.slice pB lB cB] 28)).alloc (.cells #[.int .u64 0,.slice none 0 0] 26) = O := ⟨_,rfl⟩
  have b0 : Below w.heap.size w O := by subst hO; go_grown
  have ra : Row3 O w.heap.size (.bool ba) (.int .u64 xA) (.slice pA lA cA) := by subst hO; exact ((Row3.new w _ _ _ _ rfl).alloc _).alloc _
  have rb : Row3 O (w.heap.size + 1) (.bool bb) (.int .u64 xB) (.slice pB lB cB) := by subst hO; exact (Row3.new _ _ _ _ _ (by simp)).alloc _
  have v : Var O (w.heap.size + 1 + 1) (.int .u64 0) (.slice none 0 0) := by subst hO; exact Var.new _ _ _ _ _ _ (by simp)
  replace nA := nA.below b0
  replace nB := nB.below b0
  have c1 := ra.cell1
  have c2 := ra.cell2
  go_enter Tryz.func17,Tryz.ntmps17
  go_wp2_with fail
  clear c1 c2
  refine (hsA O).mono ?_
  rintro e W1 ⟨rfl,b1⟩
  replace ra := ra.below b1 ra.lt
  replace rb := rb.below b1 rb.lt
  replace v := v.below b1 v.lt
  replace nA := nA.below b1
  replace nB := nB.below b1
  replace b1 := below_acc b0 b0.size b1
  clear b0 hO
  have c1 := rb.cell1
  have c2 := rb.cell2
  go_wp2_with fail
  refine (hsB W1).mono ?_
  rintro e W2 ⟨rfl,b2⟩
  clear c1 c2 hsA hsB
  replace ra := ra.below b2 ra.lt
  replace rb := rb.below b2 rb.lt
  replace v := v.below b2 v.lt
  replace nA := nA.below b2
  replace nB := nB.below b2
  replace b2 := below_acc b1 b1.size b2
  clear b1
  go_upto_region 3 with fail
  go_cut [28] from 25 to 28 (fun s28 wx => s28 = .bool false ∧ W2 = wx)
  case first =>
    cases p
    · go_wp2_with fail
      go_meet
      exact ⟨rfl,rfl⟩
    · obtain rfl : q = false := hpq
      go_wp2_with fail
      go_meet
      exact ⟨rfl,rfl⟩
  case rest =>
    obtain ⟨rfl,rfl⟩ := hcut
    clear hpq
    have a1 := ra.cell1
    have a2 := ra.cell2
    have c1 := rb.cell1
    have c2 := rb.cell2
    go_wp2_with fail
    refine (hdv W2 nA nB).mono ?_
    rintro e W3 ⟨v1,v2,rfl,h1,hn2,b3⟩
    obtain ⟨x1,p1,l1,k1,rfl⟩ := h1.shape
    obtain ⟨x2,p2,l2,k2,rfl⟩ := hn2.shape
    clear c1 c2 a1 a2 hdv h1 nA ra
    replace rb := rb.below b3 rb.lt
    replace v := v.below b3 v.lt
    replace nB := nB.below b3
    replace b2 := below_acc b2 b2.size b3
    clear b3
    go_wp2_with fail
    have b3 : Below W3.heap.size W3 ((W3.alloc (.cells #[.int .u64 x1,.slice p1 l1 k1] 26)).alloc (.cells #[.int .u64 x2,.slice p2 l2 k2] 26)) := by go_grown
    replace rb := rb.below b3 rb.lt
    replace v := v.below b3 v.lt
    replace nB := nB.below b3
    replace hn2 := hn2.below b3
    replace b3 := below_acc b2 b2.size b3
    have vt : Var ((W3.alloc (.cells #[.int .u64 x1,.slice p1 l1 k1] 26)).alloc (.cells #[.int .u64 x2,.slice p2 l2 k2] 26)) (W3.heap.size + 1) (.int .u64 x2) (.slice p2 l2 k2) := Var.new _ _ _ _ _ _ (by simp)
    generalize (W3.alloc (.cells #[.int .u64 x1,.slice p1 l1 k1] 26)).alloc (.cells #[.int .u64 x2,.slice p2 l2 k2] 26) = W4 at rb v nB hn2 b3 vt ⊢
    clear b2
    have hwc : w.heap.size ≤ w.heap.size + 1 + 1 := by omega
    obtain ⟨cb,hcb⟩ : ∃ cb,w.heap.size + 1 = cb := ⟨_,rfl⟩
    obtain ⟨c4,hc4⟩ : ∃ c4,cb + 1 = c4 := ⟨_,rfl⟩
    obtain ⟨ct,hct⟩ : ∃ ct,W3.heap.size + 1 = ct := ⟨_,rfl⟩
    rw [hcb] at rb v hwc
    rw [hc4] at v hwc
    rw [hct] at vt
    rw [hcb,hct]
    rw [hc4]
    clear hct
    have hT4 := hT.below b3
    refine wpIn_wide (n := 5) |>.1 ?_
    refine region_rg [⟨some 46,[],[0],false,none,[],[],false,false,false⟩,⟨some 47,[(0,some 46)],[1],false,none,[],[],false,true,false⟩,⟨some 48,[(1,some 47)],[2],false,none,[],[],false,true,false⟩,⟨some 49,[],[3],false,none,[],[],false,true,false⟩,⟨some 50,[(3,some 49),(2,some 48)],[4,2],false,none,[],[],false,true,false⟩,⟨some 51,[(2,some 48),(4,some 50)],[5],false,none,[],[],false,false,false⟩,⟨some 12,[],[6],true,none,[],[],false,false,false⟩,⟨none,[(6,some 12),(5,some 51)],[6],true,some 6,[6],[0,1,2,3,4],false,false,false⟩] [Spec.lit (.pointer (some ⟨cb,1,none⟩)),Spec.lit (.agg #[.int .u64 xB,.slice pB lB cB]),Spec.row W4.heap.size M B,Spec.lit (.agg #[.int .u64 x2,.slice p2 l2 k2]),Spec.row2 W4.heap.size M R,Spec.euc2 W4.heap.size M B R,Spec.euc0 W4.heap.size,Spec.eucv2 W4.heap.size M B R] [6] (fun _ => False) [0,1,2,3,4,5,6,7] [0,1,2,3,4,5,7] (by kernel_rfl) rfl (by kernel_rfl) rfl (fun _ h => (h : False).elim) rfl (by kernel_rfl) [(0,some 46),(1,some 47),(2,some 48),(3,some 49),(4,some 50),(5,some 51),(6,some 12),(7,none)] rfl (AllRuns.cons (some 46) [] [0] rfl rfl rfl rfl none rfl _ _ rfl rfl ?_ (AllRuns.cons (some 47) [(0,some 46)] [1] rfl rfl rfl rfl none rfl _ _ rfl rfl ?_ (AllRuns.cons (some 48) [(1,some 47)] [2] rfl rfl rfl rfl none rfl _ _ rfl rfl ?_ (AllRuns.cons (some 49) [] [3] rfl rfl rfl rfl none rfl _ _ rfl rfl ?_ (AllRuns.cons (some 50) [(3,some 49),(2,some 48)] [4,2] rfl rfl rfl rfl none rfl _ _ rfl rfl ?_ (AllRuns.cons (some 51) [(2,some 48),(4,some 50)] [5] rfl rfl rfl rfl none rfl _ _ rfl rfl ?_ (AllRuns.cons (some 12) [] [6] rfl rfl rfl rfl none rfl _ _ rfl rfl ?_ (AllRuns.cons none [(6,some 12),(5,some 51)] [6] rfl rfl rfl rfl (some 6) rfl _ _ rfl rfl ?_ (AllRuns.nil))))))))) ?_
    · rintro env W hB - K hK
      simp only [fill,Act.put,List.setIfInBounds_toArray,List.set_cons_zero,List.set_cons_succ] at hK ⊢
      go_simp; exact hid hK _ _ (Below.refl _ _) rfl (novar rfl)
    · rintro env W hB ⟨h0,-⟩ K hK
      have e0 : env 0 = .pointer (some ⟨cb,1,none⟩) := h0
      simp only [fill,Act.put,List.setIfInBounds_toArray,List.set_cons_zero,List.set_cons_succ,e0] at hK ⊢
      have acc := Base.bx hB
      have rr := rb.below acc rb.lt
      have d0 := rr.cell1
      have d1 := rr.cell2
      go_simp; exact hid hK _ _ (Below.refl _ _) rfl (novar rfl)
    · rintro env W hB ⟨h1,-⟩ K hK
      have e1 : env 1 = .agg #[.int .u64 xB,.slice pB lB cB] := h1
      simp only [fill,Act.put,List.setIfInBounds_toArray,List.set_cons_zero,List.set_cons_succ,e1] at hK ⊢
      have acc := Base.bx hB
      go_simp
      gi_wp2_with (refine ⟨trivial,?_⟩; gi_at_call 32; refine (callsIn_wide.2 (wordsOf_any M hM _ B W (nB.below acc) hBK)).mono ?_; rintro e W2 ⟨g9,L9,u9,rfl,i9,z9,f9,hb⟩)
      exact hid hK _ _ hb ⟨g9,L9,Nat.le_trans hB.2.2.2.1 f9,z9,i9⟩ (novar rfl)
    · rintro env W hB - K hK
      simp only [fill,Act.put,List.setIfInBounds_toArray,List.set_cons_zero,List.set_cons_succ] at hK ⊢
      have acc := Base.bx hB
      have rr := vt.below acc vt.lt
      have d0 := rr.c0
      have d1 := rr.c1
      go_simp; exact hid hK _ _ (Below.refl _ _) rfl (novar rfl)
    · rintro env W hB ⟨h3,h2,-⟩ K hK
      have e3 : env 3 = .agg #[.int .u64 x2,.slice p2 l2 k2] := h3
      obtain ⟨g2,L2,y2,z2,r2⟩ := h2
      replace r2 : IsRow W (env 2) g2 L2 L2 B := r2
      have e2 : env 2 = .slice (some ⟨g2,0,none⟩) L2 L2 := r2.1
      simp only [fill,Act.put,List.setIfInBounds_toArray,List.set_cons_zero,List.set_cons_succ,e3,e2] at hK ⊢
      have acc := Base.bx hB
      go_simp
      gi_wp2_with (refine ⟨trivial,?_⟩; gi_at_call 32; refine (callsIn_wide.2 (wordsOf_any M hM _ R W (hn2.below acc) hrK)).mono ?_; rintro e W2 ⟨g9,L9,u9,rfl,i9,z9,f9,hb⟩)
      exact hid hK _ _ hb ⟨g9,L9,Nat.le_trans hB.2.2.2.1 f9,z9,i9,fun g1 L1 e1 => by have e1 : env 2 = _ := e1; rw [e2] at e1; simp only [Value.slice.injEq,Option.some.injEq,Addr.mk.injEq] at e1; have := r2.lt; omega⟩ (novar rfl)
    · rintro env W hB ⟨h2,h4,-⟩ K hK
      obtain ⟨g2,L2,y2,z2,r2⟩ := h2
      replace r2 : IsRow W (env 2) g2 L2 L2 B := r2
      have e2 : env 2 = .slice (some ⟨g2,0,none⟩) L2 L2 := r2.1
      obtain ⟨g4,L4,y4,z4,r4,d4⟩ := h4
      replace r4 : IsRow W (env 4) g4 L4 L4 R := r4
      have e4 : env 4 = .slice (some ⟨g4,0,none⟩) L4 L4 := r4.1
      simp only [fill,Act.put,List.setIfInBounds_toArray,List.set_cons_zero,List.set_cons_succ,e2,e4] at hK ⊢
      go_simp; exact hid hK _ _ (Below.refl _ _) ⟨_,_,rfl,g2,L2,g4,L4,⟨y2,y4,z2,z4,d4 g2 L2 e2,rfl,rfl⟩,e2 ▸ r2,e4 ▸ r4⟩ (novar rfl)
    · rintro env W hB - K hK
      simp only [fill,Act.put,List.setIfInBounds_toArray,List.set_cons_zero,List.set_cons_succ] at hK ⊢
      go_simp; exact hid hK _ _ (Below.refl _ _ |>.alloc (Nat.le_refl _) _) ⟨_,[.slice none 0 0,.slice none 0 0],rfl,hB.2.2.2.1,heap_alloc_new _ _,rfl⟩ (fun _ => ⟨rfl,by simp⟩)
    · rintro env W hB ⟨h6,h5,-⟩ K hK
      obtain ⟨p6,l6,z6,hp6,hc6,hl6⟩ := h6
      have e6 : env 6 = .pointer (some ⟨p6,0,none⟩) := z6
      subst hl6
      have vp : EBox W p6 (.slice none 0 0) (.slice none 0 0) := hc6
      have d0 := vp.cell0
      have d1 := vp.cell1
      have d2 := vp.free 0
      have d3 := vp.free 1
      obtain ⟨u5,v5,e5,t5⟩ := h5
      replace e5 : env 5 = .agg #[u5,v5] := e5
      simp only [fill,Act.put,List.setIfInBounds_toArray,List.set_cons_zero,List.set_cons_succ,e6,e5] at hK ⊢
      obtain ⟨g2,L2,g4,L4,⟨y2,y4,z2,z4,d24,rfl,rfl⟩,r2,r4⟩ := t5
      have tr := EBox.touch2 vp (.slice (some ⟨g2,0,none⟩) L2 L2) (some ⟨g4,0,none⟩) L4 L4
      go_simp
      exact hid hK undef _ ⟨p6,z6,hp6,tr.1⟩ ⟨p6,_,z6,hp6,tr.2,_,_,rfl,g2,L2,g4,L4,⟨y2,y4,z2,z4,d24,rfl,rfl⟩,r2.touch tr.1,r4.touch tr.1⟩ (novar rfl)
    · rintro env W5 hB ⟨h0,h1,h2,h3,h4,h5,h7,-⟩ hv hap
      have e0 : env 0 = .pointer (some ⟨cb,1,none⟩) := h0
      have e1 : env 1 = .agg #[.int .u64 xB,.slice pB lB cB] := h1
      have e3 : env 3 = .agg #[.int .u64 x2,.slice p2 l2 k2] := h3
      obtain ⟨p6,l6,z6,hp6,hc6,u6,v6,hl6,g2,L2,g4,L4,⟨y2,y4,z2,z4,d24,rfl,rfl⟩,r2,r4⟩ := h7
      have e6 : env 6 = .pointer (some ⟨p6,0,none⟩) := z6
      subst hl6
      simp only [fill,Act.put,List.setIfInBounds_toArray,List.set_cons_zero,List.set_cons_succ,e0,e1,e3,e6]
      clear h0 e0 h1 e1 h3 e3
      have eb : EBox W5 p6 (.slice (some ⟨g2,0,none⟩) L2 L2) (.slice (some ⟨g4,0,none⟩) L4 L4) := hc6
      have bq : Below W4.heap.size W4 W5 := Base.bx hB
      have lc4 := v.lt
      have hE : ERow W5 p6 g2 g4 (B : Nat) (R : Nat) := by
        obtain ⟨xs,x1,x2,x3,x4,x5⟩ := r2.wds
        obtain ⟨ys,y1,y2',y3,y4',y5⟩ := r4.wds
        exact ⟨_,_,0,0,xs,ys,eb,x2,y2',x3,y3,x4,y4',x5,y5,by omega,by omega,d24,Ne.symm (x2.2.ne_slice eb.cell0),Ne.symm (y2'.2.ne_slice eb.cell0)⟩
      clear eb hc6 r2 r4 rb nB hn2 vt hrK
      go_wp2_with fail
      go_loopg [] R (fun g wr => ∃ X Y ga gb,g = Y ∧ X ≠ 0 ∧ Hid (A.gcd B = Nat.gcd X Y) ∧ ERow wr p6 ga gb (X : Nat) (Y : Nat) ∧ W4.heap.size ≤ ga ∧ W4.heap.size ≤ gb ∧ Below W4.heap.size W4 wr)
      case atStart => exact ⟨B,R,g2,g4,rfl,hB0,hgc,hE,y2,y4,bq⟩
      case round =>
        clear hE bq hgc
        obtain ⟨X,Y,ga,gb,hgk,hX0,hgc,hE,ka,kb,bq⟩ := hrel
        have hE0 := hE
        obtain ⟨ua,ub,za,zb,xs,ys,eb,wa,wb,wx,wy,vx,vy,tx,ty,lx,ly,nab,nea,neb⟩ := hE
        have c1 := eb.cell1
        by_cases hL : ys.length ≤ 1
        · have rA := wa.row wx vx tx
          have r4 := wb.row wy vy ty
          obtain rfl := wa.1
          obtain rfl := wb.1
          have v5 := v.below bq lc4
          have hT5 := hT4.below bq
          have b5 := below_acc b3 b3.size bq
          have h40 : xs.length ≤ 50 := by omega
          obtain ⟨La,hLa⟩ : ∃ L,xs.length = L := ⟨_,rfl⟩
          obtain ⟨Lb,hLb⟩ : ∃ L,ys.length = L := ⟨_,rfl⟩
          rw [hLa] at rA eb h40
          rw [hLb] at r4 eb c1 hL
          obtain ⟨ca,hca⟩ : ∃ c,La + za = c := ⟨_,rfl⟩
          obtain ⟨cz,hcz⟩ : ∃ c,Lb + zb = c := ⟨_,rfl⟩
          rw [hca] at rA eb
          rw [hcz] at r4 eb c1
          have hL2 : La ≠ 0 := by
            rintro rfl
            obtain ⟨-,-,l,-,-,-,hv,-⟩ := rA
            simp [val] at hv
            omega
          clear wa wb wx wy vx vy tx ty lx ly hLa hLb hca hcz hE0 hT4 hT v b3 bq hgk
          have c0 := eb.cell0
          obtain hL4 | hL4 : Lb = 0 ∨ Lb = 1 := by omega
          · subst hL4
            have hR0 : Y = 0 := by
              obtain ⟨-,-,l,-,-,-,hv,-⟩ := r4
              simp [val] at hv
              omega
            have hgB : Hid (A.gcd B = X) := Lib.hid (by rw [hgc.out,hR0,Nat.gcd_zero_right])
            clear hR0 r4
            obtain ⟨-,hlc,l,ha,hl,hw,hv,-⟩ := rA
            go_wp2_with fail
            refine (number_row ga _ La ca l wr ha (by omega) (by omega) (by omega) hw).mono ?_
            rintro e W6 ⟨vn,rfl,hn,b6⟩
            rw [seg_all,hv] at hn
            obtain ⟨xn,pn,ln,kn,rfl⟩ := hn.shape
            clear c0 c1
            have v6 := v5.below b6 v5.lt
            have b7 := below_two (below_acc b5 b5.size b6) hwc (.int .u64 xn) (.slice pn ln kn)
            have c0 := v6.c0
            have c1 := v6.c1
            have f0 := v6.free 0
            have f1 := v6.free 1
            have r := v6.set (.int .u64 xn) pn ln kn
            have n7 := hn.two v6 (.int .u64 xn) (.slice pn ln kn)
            go_wp2_with fail
            exact bodyPost_var Tryz.results17 rfl rfl r (by rw [hgB.out]; exact n7) b7
          · subst hL4
            have hR0 : Y ≠ 0 := by
              rintro rfl
              have h := (r4.len (by decide)).1
              simp [pw] at h
            have hR1 : (Y : Int) < 18446744073709551616 := by
              have h := (r4.len (by decide)).2
              rw [show pw 1 = 18446744073709551616 from by decide] at h
              exact h
            have hlw : ∀ W,Below wr.heap.size wr W → Calls Tryz.prog 51 #[.slice (some ⟨ga,0,none⟩) La ca,.int .u64 (Y : Int)] W fun e w' => e = .returned (.int .u64 ((X % Y : Nat) : Int)) ∧ Below W.heap.size W w' := by
              intro W hW
              obtain ⟨-,hlc,l,ha,hl,hw,hv,-⟩ := rA
              have q := leftByWord_any ga _ La ca l Y W (ha.below hW ha.lt) (by omega) (by omega) hw ⟨by omega,by omega⟩ (by omega)
              rw [hv] at q
              exact q
            have hgw : ∀ W,Below wr.heap.size wr W → Calls Tryz.prog 49 #[.int .u64 (Y : Int),.int .u64 ((X % Y : Nat) : Int)] W fun e w' => e = .returned (.int .u64 ((A.gcd B : Nat) : Int)) ∧ Below W.heap.size W w' := by
              intro W hW
              have hlt := Nat.mod_lt X (show Y > 0 by omega)
              have q := gcdWords Y (X % Y) (by omega) (by omega) W (hT5.below hW)
              refine q.mono ?_
              rintro e w' ⟨he,rfl⟩
              refine ⟨?_,Below.refl _ _⟩
              rw [he,hgc.out,(Nat.gcd_comm X Y).trans ((Nat.gcd_rec Y X).trans (Nat.gcd_comm _ _))]
            have hgl : Hid (Word (A.gcd B : Nat)) := Lib.hid (by
              have h := Nat.gcd_le_right X (show 0 < Y by omega)
              rw [hgc.out]
              exact ⟨by omega,by omega⟩)
            clear hR0 hR1 hgc rA
            go_wp2_with fail
            refine wpIn_wide (n := 5) |>.1 ?_
            refine region_rg [⟨some 64,[],[0],false,none,[],[],false,false,false⟩,⟨some 65,[(0,some 64)],[1],false,none,[],[],false,true,false⟩,⟨some 66,[(1,some 65)],[2],false,none,[],[],false,false,false⟩,⟨some 67,[(2,some 66)],[3],false,none,[],[],false,true,false⟩,⟨some 68,[],[4],false,none,[],[],false,false,false⟩,⟨some 69,[(4,some 68)],[5],false,none,[],[],false,true,false⟩,⟨some 70,[],[6],false,none,[],[],false,false,false⟩,⟨some 71,[(6,some 70)],[7],false,none,[],[],false,true,false⟩,⟨some 72,[(7,some 71)],[8],false,none,[],[],false,false,false⟩,⟨some 73,[(8,some 72)],[9],false,none,[],[],false,true,false⟩,⟨some 74,[(5,some 69),(9,some 73)],[10],false,none,[],[],false,true,false⟩,⟨some 75,[(3,some 67),(10,some 74)],[11],false,none,[],[],false,true,false⟩,⟨some 76,[(11,some 75)],[12],false,none,[],[],false,false,false⟩,⟨none,[(12,some 76)],[],false,none,[],[0,1,2,3,4,5,6,7,8,9,10,11],true,true,true⟩] [Spec.lit (.pointer (some ⟨p6,1,none⟩)),Spec.lit (.slice (some ⟨gb,0,none⟩) 1 cz),Spec.lit (.pointer (some ⟨gb,0,none⟩)),Spec.lit (.int .u64 Y),Spec.lit (.pointer (some ⟨p6,0,none⟩)),Spec.lit (.slice (some ⟨ga,0,none⟩) La ca),Spec.lit (.pointer (some ⟨p6,1,none⟩)),Spec.lit (.slice (some ⟨gb,0,none⟩) 1 cz),Spec.lit (.pointer (some ⟨gb,0,none⟩)),Spec.lit (.int .u64 Y),Spec.lit (.int .u64 (X % Y : Nat)),Spec.lit (.int .u64 (A.gcd B : Nat)),Spec.lit (.agg #[.int .u64 (A.gcd B : Nat),.slice none 0 0]),Spec.last (fun vs w => Var w c4 (.int .u64 (A.gcd B : Nat)) (.slice none 0 0)) (fun _ _ _ h m => h.below m h.lt)] [] (fun k => k = c4) [0,1,2,3,4,5,6,7,8,9,10,11,12,13] [0,1,2,3,4,5,6,7,8,9,10,11,12,13] (by kernel_rfl) rfl (by kernel_rfl) rfl (fun p h => (show p = c4 from h) ▸ v5.lt) rfl (by kernel_rfl) [(0,some 64),(1,some 65),(2,some 66),(3,some 67),(4,some 68),(5,some 69),(6,some 70),(7,some 71),(8,some 72),(9,some 73),(10,some 74),(11,some 75),(12,some 76),(13,none)] rfl (AllRuns.cons (some 64) [] [0] rfl rfl rfl rfl none rfl _ _ rfl rfl ?_ (AllRuns.cons (some 65) [(0,some 64)] [1] rfl rfl rfl rfl none rfl _ _ rfl rfl ?_ (AllRuns.cons (some 66) [(1,some 65)] [2] rfl rfl rfl rfl none rfl _ _ rfl rfl ?_ (AllRuns.cons (some 67) [(2,some 66)] [3] rfl rfl rfl rfl none rfl _ _ rfl rfl ?_ (AllRuns.cons (some 68) [] [4] rfl rfl rfl rfl none rfl _ _ rfl rfl ?_ (AllRuns.cons (some 69) [(4,some 68)] [5] rfl rfl rfl rfl none rfl _ _ rfl rfl ?_ (AllRuns.cons (some 70) [] [6] rfl rfl rfl rfl none rfl _ _ rfl rfl ?_ (AllRuns.cons (some 71) [(6,some 70)] [7] rfl rfl rfl rfl none rfl _ _ rfl rfl ?_ (AllRuns.cons (some 72) [(7,some 71)] [8] rfl rfl rfl rfl none rfl _ _ rfl rfl ?_ (AllRuns.cons (some 73) [(8,some 72)] [9] rfl rfl rfl rfl none rfl _ _ rfl rfl ?_ (AllRuns.cons (some 74) [(5,some 69),(9,some 73)] [10] rfl rfl rfl rfl none rfl _ _ rfl rfl ?_ (AllRuns.cons (some 75) [(3,some 67),(10,some 74)] [11] rfl rfl rfl rfl none rfl _ _ rfl rfl ?_ (AllRuns.cons (some 76) [(11,some 75)] [12] rfl rfl rfl rfl none rfl _ _ rfl rfl ?_ (AllRuns.cons none [(12,some 76)] [] rfl rfl rfl rfl none rfl _ _ rfl rfl ?_ (AllRuns.nil))))))))))))))) ?_
            · rintro env W hB - K hK
              simp only [fill,Act.put,List.setIfInBounds_toArray,List.set_cons_zero,List.set_cons_succ] at hK ⊢
              go_simp; exact hid hK _ _ (Below.refl _ _) rfl (novar rfl)
            · rintro env W hB ⟨h0,-⟩ K hK
              have e0 : env 0 = .pointer (some ⟨p6,1,none⟩) := h0
              simp only [fill,Act.put,List.setIfInBounds_toArray,List.set_cons_zero,List.set_cons_succ,e0] at hK ⊢
              have acc := Base.bx hB
              have rr := eb.below acc eb.lt
              have d0 := rr.cell1
              go_simp; exact hid hK _ _ (Below.refl _ _) rfl (novar rfl)
            · rintro env W hB ⟨h1,-⟩ K hK
              have e1 : env 1 = .slice (some ⟨gb,0,none⟩) 1 cz := h1
              simp only [fill,Act.put,List.setIfInBounds_toArray,List.set_cons_zero,List.set_cons_succ,e1] at hK ⊢
              go_simp; exact hid hK _ _ (Below.refl _ _) rfl (novar rfl)
            · rintro env W hB ⟨h2,-⟩ K hK
              have e2 : env 2 = .pointer (some ⟨gb,0,none⟩) := h2
              simp only [fill,Act.put,List.setIfInBounds_toArray,List.set_cons_zero,List.set_cons_succ,e2] at hK ⊢
              have acc := Base.bx hB
              have d0 := row_one1 (r4.below acc)
              go_simp; exact hid hK _ _ (Below.refl _ _) rfl (novar rfl)
            · rintro env W hB - K hK
              simp only [fill,Act.put,List.setIfInBounds_toArray,List.set_cons_zero,List.set_cons_succ] at hK ⊢
              go_simp; exact hid hK _ _ (Below.refl _ _) rfl (novar rfl)
            · rintro env W hB ⟨h4,-⟩ K hK
              have e4 : env 4 = .pointer (some ⟨p6,0,none⟩) := h4
              simp only [fill,Act.put,List.setIfInBounds_toArray,List.set_cons_zero,List.set_cons_succ,e4] at hK ⊢
              have acc := Base.bx hB
              have rr := eb.below acc eb.lt
              have d0 := rr.cell0
              go_simp; exact hid hK _ _ (Below.refl _ _) rfl (novar rfl)
            · rintro env W hB - K hK
              simp only [fill,Act.put,List.setIfInBounds_toArray,List.set_cons_zero,List.set_cons_succ] at hK ⊢
              go_simp; exact hid hK _ _ (Below.refl _ _) rfl (novar rfl)
            · rintro env W hB ⟨h6,-⟩ K hK
              have e6 : env 6 = .pointer (some ⟨p6,1,none⟩) := h6
              simp only [fill,Act.put,List.setIfInBounds_toArray,List.set_cons_zero,List.set_cons_succ,e6] at hK ⊢
              have acc := Base.bx hB
              have rr := eb.below acc eb.lt
              have d0 := rr.cell1
              go_simp; exact hid hK _ _ (Below.refl _ _) rfl (novar rfl)
            · rintro env W hB ⟨h7,-⟩ K hK
              have e7 : env 7 = .slice (some ⟨gb,0,none⟩) 1 cz := h7
              simp only [fill,Act.put,List.setIfInBounds_toArray,List.set_cons_zero,List.set_cons_succ,e7] at hK ⊢
              go_simp; exact hid hK _ _ (Below.refl _ _) rfl (novar rfl)
            · rintro env W hB ⟨h8,-⟩ K hK
              have e8 : env 8 = .pointer (some ⟨gb,0,none⟩) := h8
              simp only [fill,Act.put,List.setIfInBounds_toArray,List.set_cons_zero,List.set_cons_succ,e8] at hK ⊢
              have acc := Base.bx hB
              have d0 := row_one1 (r4.below acc)
              go_simp; exact hid hK _ _ (Below.refl _ _) rfl (novar rfl)
            · rintro env W hB ⟨h5,h9,-⟩ K hK
              have e5 : env 5 = .slice (some ⟨ga,0,none⟩) La ca := h5
              have e9 : env 9 = .int .u64 Y := h9
              simp only [fill,Act.put,List.setIfInBounds_toArray,List.set_cons_zero,List.set_cons_succ,e5,e9] at hK ⊢
              have acc := Base.bx hB
              go_simp
              gi_wp2_with (refine ⟨trivial,?_⟩; gi_at_call 51; refine (callsIn_wide.2 (hlw W acc)).mono ?_; rintro e W2 ⟨rfl,hb⟩)
              exact hid hK _ _ hb rfl (novar rfl)
            · rintro env W hB ⟨h3,h10,-⟩ K hK
              have e3 : env 3 = .int .u64 Y := h3
              have e10 : env 10 = .int .u64 (X % Y : Nat) := h10
              simp only [fill,Act.put,List.setIfInBounds_toArray,List.set_cons_zero,List.set_cons_succ,e3,e10] at hK ⊢
              have acc := Base.bx hB
              go_simp
              gi_wp2_with (refine ⟨trivial,?_⟩; gi_at_call 49; refine (callsIn_wide.2 (hgw W acc)).mono ?_; rintro e W2 ⟨rfl,hb⟩)
              exact hid hK _ _ hb rfl (novar rfl)
            · rintro env W hB ⟨h11,-⟩ K hK
              have e11 : env 11 = .int .u64 (A.gcd B : Nat) := h11
              simp only [fill,Act.put,List.setIfInBounds_toArray,List.set_cons_zero,List.set_cons_succ,e11] at hK ⊢
              go_simp
              gi_wp2_with (refine ⟨trivial,?_⟩; gi_at_call 48; refine (callsIn_wide.2 (of_any (A.gcd B : Nat) W)).mono ?_; rintro e W2 ⟨rfl,hb⟩)
              exact hid hK _ _ hb rfl (novar rfl)
            · rintro env W hB ⟨h12,-⟩ K hK
              have e12 : env 12 = .agg #[.int .u64 (A.gcd B : Nat),.slice none 0 0] := h12
              simp only [fill,Act.put,List.setIfInBounds_toArray,List.set_cons_zero,List.set_cons_succ,e12] at hK ⊢
              have acc := Base.bx hB
              have rr := v5.below acc v5.lt
              have j0 := rr.free 0
              have j1 := rr.free 1
              have d0 := rr.c0
              have d1 := rr.c1
              have tr := Touch.nat (x' := .int .u64 (A.gcd B : Nat)) (q' := none) (m' := 0) (c' := 0) rr.1
              go_simp
              exact hid hK undef _ ⟨c4,rfl,tr.1⟩ ⟨tr.2,_,_,_,rfl⟩ (novar rfl)
            · rintro env W7 hB ⟨h0,h1,h2,h3,h4,h5,h6,h7,h8,h9,h10,h11,h12,h13,-⟩ hv hap
              have e0 : env 0 = .pointer (some ⟨p6,1,none⟩) := h0
              have e1 : env 1 = .slice (some ⟨gb,0,none⟩) 1 cz := h1
              have e2 : env 2 = .pointer (some ⟨gb,0,none⟩) := h2
              have e3 : env 3 = .int .u64 Y := h3
              have e4 : env 4 = .pointer (some ⟨p6,0,none⟩) := h4
              have e5 : env 5 = .slice (some ⟨ga,0,none⟩) La ca := h5
              have e6 : env 6 = .pointer (some ⟨p6,1,none⟩) := h6
              have e7 : env 7 = .slice (some ⟨gb,0,none⟩) 1 cz := h7
              have e8 : env 8 = .pointer (some ⟨gb,0,none⟩) := h8
              have e9 : env 9 = .int .u64 Y := h9
              have e10 : env 10 = .int .u64 (X % Y : Nat) := h10
              have e11 : env 11 = .int .u64 (A.gcd B : Nat) := h11
              have e12 : env 12 = .agg #[.int .u64 (A.gcd B : Nat),.slice none 0 0] := h12
              simp only [fill,Act.put,List.setIfInBounds_toArray,List.set_cons_zero,List.set_cons_succ,e0,e1,e2,e3,e4,e5,e6,e7,e8,e9,e10,e11,e12]
              clear h0 e0 h1 e1 h2 e2 h3 e3 h4 e4 h5 e5 h6 e6 h7 e7 h8 e8 h9 e9 h10 e10 h11 e11 h12 e12
              have o6 : Base wr (fun k => k = c4) W7 := hB
              have b6 : Below w.heap.size w W7 := b5.trans ⟨o6.1,o6.2.1,o6.2.2.1,o6.2.2.2.1,fun k hk => o6.2.2.2.2 k (Nat.lt_of_lt_of_le hk b5.size) (fun h => by have h : k = _ := h; omega)⟩
              have r6 : Var W7 c4 (.int .u64 (A.gcd B : Nat)) (.slice none 0 0) := h13
              go_wp2_with fail
              exact bodyPost_var Tryz.results17 rfl rfl r6 (IsNat.word hgl.out) b6
        · obtain rfl := wb.1
          have hLI : (1 : Int) < (ys.length : Int) := by omega
          have Hgk := Lib.hid hgk
          clear hgk
          have hYp : (0 : Int) < (Y : Int) := by
            have r4 := wb.row wy vy ty
            have h1 := (r4.len (by omega)).1
            have := pw_pos (ys.length - 1)
            omega
          have st := step_any p6 ga gb X Y _ hE0 hYp
          go_wp2_with fail
          refine st.mono ?_
          rintro rr W6 ⟨v9,p9,q9,r9,t9,ga',gb',rfl,-,hE6,i1,i2,i3,i4,i5,i6,i7,i8,-⟩
          clear st c1
          obtain ⟨X',hX'⟩ : ∃ X' : Nat,p9 * X + q9 * Y = X' := ⟨_,(Int.toNat_of_nonneg (by omega)).symm⟩
          obtain ⟨Y',hY'⟩ : ∃ Y' : Nat,r9 * X + t9 * Y = Y' := ⟨_,(Int.toNat_of_nonneg i1).symm⟩
          rw [hX',hY'] at hE6 i3 i5
          rw [hY'] at i1 i2
          rw [hX'] at i4
          have i5' : Nat.gcd X' Y' = Nat.gcd X Y := i5
          have b6 : Below W4.heap.size W4 W6 := bq.trans (i8.toBelow bq.size (by rintro k (h | h | h) <;> omega))
          have Hrel := Lib.hid (And.intro hE6 (And.intro (show A.gcd B = Nat.gcd X' Y' by rw [hgc.out,i5']) (show W4.heap.size ≤ ga' ∧ W4.heap.size ≤ gb' from ⟨by rcases i6 with h | h <;> omega,by have := bq.size; rcases i7 with h | h <;> omega⟩)))
          have Hm : Hid (Y' < Y ∧ X' ≠ 0) := Lib.hid ⟨by omega,by omega⟩
          clear hE6 i1 i2 i3 i4 i5 i5' i6 i7 i8 hX' hY'
          go_wp2_with fail
          go_roundg Y'
          case measure => rw [Hgk.out]; exact Hm.out.1
          case rel => exact ⟨X',Y',ga',gb',rfl,Hm.out.2,Lib.hid Hrel.out.2.1,Hrel.out.1,Hrel.out.2.2.1,Hrel.out.2.2.2,b6⟩
theorem gcd_any (M : Nat) (hM : M ≤ 40) (va vb : Value) (a b : Int) (w : World) (hT : TabB w) (ha : IsInt w va a) (hb : IsInt w vb b) (haM : absI a < pw M) (hbM : absI b < pw M) :
    Calls Tryz.prog 17 #[va,vb] w (RetNat (Int.gcd a b : Nat) w) := by
  obtain ⟨xA,pA,lA,cA,rfl,hA⟩ := ha
  obtain ⟨xB,pB,lB,cB,rfl,hB⟩ := hb
  show Calls _ _ _ _ (RetNat (Nat.gcd a.natAbs b.natAbs : Nat) w)
  rw [absI_nat] at hA hB haM hbM
  generalize a.natAbs = A at *
  generalize b.natAbs = B at *
  obtain ⟨uA,p,sA,cA'⟩ := small_of hA
  obtain ⟨uB,q,sB,cB'⟩ := small_of hB
  by_cases hpq : (p && q) = true
  · obtain ⟨rfl,rfl⟩ : p = true ∧ q = true := by simpa using hpq
    obtain ⟨-,rfl,rfl,rfl,rfl,wA⟩ : _ ∧ _ := cA'.resolve_right (fun h => by simp at h)
    obtain ⟨-,rfl,rfl,rfl,rfl,wB⟩ : _ ∧ _ := cB'.resolve_right (fun h => by simp at h)
    exact gcd_word _ _ A B (by have := wA.2; omega) (by have := wB.2; omega) w hT
  · by_cases hB0 : B = 0
    · subst hB0
      obtain ⟨rfl,rfl,rfl,rfl,rfl,wB⟩ : _ ∧ _ := cB'.resolve_right (fun h => by simp at h)
      obtain rfl : p = false := by simpa using hpq
      obtain ⟨-,g,rfl,rfl,-⟩ : _ ∧ _ := cA'.resolve_left (fun h => by simp at h)
      rw [Nat.gcd_zero_right]
      exact gcd_zero _ _ g lA cA A w hA
    · exact gcd_more M hM _ _ p q xA uA xB uB pA pB lA cA lB cB A B w hT hA hB sA sB (by simpa using hpq) haM hbM hB0
end Go.Proofs.YtgccgacpifebbaaGreatDoor
