/- Bez0 -/
import Derived.Test.YtgccgacpifebbaaGreatDoorZb25
import Derived.Test.YtgccgacpifebbaaGreatDoorZb46
namespace Go.Proofs.YtgccgacpifebbaaGreatDoor
open Go.RowKit
set_option linter.unusedVariables false
theorem Row3.touch {w : World} {c : Nat} {x y : Value} {p : Option Addr} {l k : Nat} (h : Row3 w c x y (.slice p l k)) (x' y' : Value) (q : Option Addr) (m j : Nat) :
    Touch c w (((w.setCell ⟨c,0,none⟩ x').setCell ⟨c,1,none⟩ y').setCell ⟨c,2,none⟩ (.slice q m j)) ∧ Row3 (((w.setCell ⟨c,0,none⟩ x').setCell ⟨c,1,none⟩ y').setCell ⟨c,2,none⟩ (.slice q m j)) c x' y' (.slice q m j) :=
  ⟨⟨(((Chg.refl c w).set 0 x').set 1 y').set 2 _,_,_,_,h,h.set3 _ _ _,rfl,⟨2,_,_,_,rfl⟩,⟨2,_,_,_,rfl⟩⟩,h.set3 _ _ _⟩
theorem bodyPost_III {fn : Func} {p q s : Tmp} (h : fn.results = #[.cell p 28,.cell q 28,.cell s 28]) {w' : World} {a : Act} {x1 x2 x3 y1 y2 y3 z1 z2 z3 : Value} {c d e : Nat} {R : Ending → World → Prop} (hd : a.defers = [])
    (hp : a.tmps.getD p undef = .pointer (some ⟨c,0,none⟩)) (hq : a.tmps.getD q undef = .pointer (some ⟨d,0,none⟩)) (hs : a.tmps.getD s undef = .pointer (some ⟨e,0,none⟩)) (h1 : Row3 w' c x1 y1 z1) (h2 : Row3 w' d x2 y2 z2) (h3 : Row3 w' e x3 y3 z3)
    (hR : R (.returned (.tuple #[.agg #[x1,y1,z1],.agg #[x2,y2,z2],.agg #[x3,y3,z3]])) w') : bodyPost Tryz.prog fn R .ret a w' := by
  refine bodyPost_ret (v := .tuple #[.agg #[x1,y1,z1],.agg #[x2,y2,z2],.agg #[x3,y3,z3]]) ?_ hd hR
  have hp' : a.tmps[p]?.getD undef = .pointer (some ⟨c,0,none⟩) := by simpa using hp
  have hq' : a.tmps[q]?.getD undef = .pointer (some ⟨d,0,none⟩) := by simpa using hq
  have hs' : a.tmps[s]?.getD undef = .pointer (some ⟨e,0,none⟩) := by simpa using hs
  simp [results,h,hp',hq',hs',asAddr,run_loadVar_int h1,run_loadVar_int h2,run_loadVar_int h3]
def RetIII (g x y : Int) (w : World) (e : Ending) (w' : World) : Prop := ∃ v1 v2 v3,e = .returned (.tuple #[v1,v2,v3]) ∧ IsInt w' v1 g ∧ IsInt w' v2 x ∧ IsInt w' v3 y ∧ Below w.heap.size w w'
set_option maxRecDepth 100000 in
set_option maxHeartbeats 8000000 in
theorem bezout_0 (va : Value) (a : Int) (w : World) (ha : IsInt w va a) : Calls Tryz.prog 11 #[va,.agg #[.bool false,.int .u64 0,.slice none 0 0]] w (RetIII (absI a) (sgnI a) 0 w) := by
  have hS : -9223372036854775808 ≤ sgnI a ∧ sgnI a ≤ 9223372036854775807 := by unfold sgnI; split <;> (try split) <;> omega
  obtain ⟨xA,pA,lA,cA,rfl,hn⟩ := ha
  obtain ⟨bA,hbA⟩ : ∃ bA,decide (a < 0) = bA := ⟨_,rfl⟩
  rw [hbA]
  obtain ⟨O,hO⟩ : ∃ O,((((w.alloc (.cells #[.bool bA,.int .u64 xA,.slice pA lA cA] 28)).alloc (.cells #[.bool false,.int .u64 0,.slice none 0 0] 28)).alloc (.cells #[.bool false,.int .u64 0,.slice none 0 0] 28)).alloc (.cells #[.bool false,.int .u64 0,.slice none 0 0] 28)).alloc (.cells #[.bool false,.int .u64 0,.slice none 0 0] 28) = O := ⟨_,rfl⟩
  have b0 : Below w.heap.size w O := by subst hO; go_grown
  have ra : Row3 O w.heap.size (.bool bA) (.int .u64 xA) (.slice pA lA cA) := by subst hO; exact ((((Row3.new w _ _ _ _ rfl).alloc _).alloc _).alloc _).alloc _
  have rb : Row3 O (w.heap.size + 1) (.bool false) (.int .u64 0) (.slice none 0 0) := by subst hO; exact (((Row3.new _ _ _ _ _ (by simp)).alloc _).alloc _).alloc _
  have rc4 : Row3 O (w.heap.size + 1 + 1) (.bool false) (.int .u64 0) (.slice none 0 0) := by subst hO; exact ((Row3.new _ _ _ _ _ (by simp)).alloc _).alloc _
  have rc5 : Row3 O (w.heap.size + 1 + 1 + 1) (.bool false) (.int .u64 0) (.slice none 0 0) := by subst hO; exact (Row3.new _ _ _ _ _ (by simp)).alloc _
  have rc6 : Row3 O (w.heap.size + 1 + 1 + 1 + 1) (.bool false) (.int .u64 0) (.slice none 0 0) := by subst hO; exact Row3.new _ _ _ _ _ (by simp)
  have nA : IsInt O (.agg #[.bool bA,.int .u64 xA,.slice pA lA cA]) a := ⟨_,_,_,_,by rw [← hbA],hn.below b0⟩
  have nG : IsInt O (.agg #[.bool false,.int .u64 xA,.slice pA lA cA]) (absI a) := ⟨_,_,_,_,by rw [show decide (absI a < 0) = false by have := absI_nonneg a; simp; omega],by rw [show absI (absI a) = absI a by have := absI_nonneg a; unfold absI at *; split <;> omega]; exact hn.below b0⟩
  clear hbA hn
  have e0 := rb.cell0
  have e1 := rb.cell1
  have e2 := rb.cell2
  go_enter Tryz.func11,Tryz.ntmps11
  go_wp2_with fail
  clear e0 e1 e2 hO
  refine (sign_int _ 0 O (lit0_int O)).mono ?_
  rintro e W2 ⟨rfl,b1⟩
  rw [show sgnI 0 = 0 from rfl]
  replace ra := ra.below b1 ra.lt
  replace rc4 := rc4.below b1 rc4.lt
  replace rc5 := rc5.below b1 rc5.lt
  replace rc6 := rc6.below b1 rc6.lt
  replace nA := nA.below b1
  replace nG := nG.below b1
  replace b1 := below_acc b0 b0.size b1
  clear b0 rb
  obtain ⟨ca,hca⟩ : ∃ ca,w.heap.size = ca := ⟨_,rfl⟩
  have d45 : w.heap.size + 1 + 1 ≠ w.heap.size + 1 + 1 + 1 := by omega
  obtain ⟨c4,hc4⟩ : ∃ c4,w.heap.size + 1 + 1 = c4 := ⟨_,rfl⟩
  rw [hc4] at rc4 rc5 rc6
  obtain ⟨c5,hc5⟩ : ∃ c5,c4 + 1 = c5 := ⟨_,rfl⟩
  rw [hc5] at rc5 rc6
  obtain ⟨c6,hc6⟩ : ∃ c6,c5 + 1 = c6 := ⟨_,rfl⟩
  rw [hc6] at rc6
  rw [hca] at ra hc4
  have dc5c4 : c5 ≠ c4 := by omega
  have dc6c4 : c6 ≠ c4 := by omega
  have dc4c5 : c4 ≠ c5 := by omega
  have dc6c5 : c6 ≠ c5 := by omega
  have dc4c6 : c4 ≠ c6 := by omega
  have dc5c6 : c5 ≠ c6 := by omega
  clear d45
  rw [hca]
  go_wp2_with fail
  refine wpIn_wide (n := 5) |>.1 ?_
  refine region_rg [⟨some 15,[],[0],false,none,[],[],false,false,false⟩,⟨some 16,[(0,some 15)],[1],false,none,[],[],false,true,false⟩,⟨some 17,[(1,some 16)],[2],false,none,[],[],false,true,false⟩,⟨some 18,[],[3],false,none,[],[],false,true,false⟩,⟨some 19,[(3,some 18)],[4],false,none,[],[],false,true,false⟩,⟨some 20,[(4,some 19)],[5],false,none,[],[3],false,false,false⟩,⟨some 21,[],[6],false,none,[],[],false,false,false⟩,⟨none,[(2,some 17)],[],false,none,[],[0,1,3,4,5],true,true,true⟩,⟨none,[(5,some 20),(7,none)],[],false,none,[7],[0,1,2,3,4],true,false,true⟩,⟨none,[(6,some 21),(8,none)],[],false,none,[7,8],[0,1,2,3,4,5,7],true,false,true⟩] [Spec.lit (.pointer (some ⟨ca,1,none⟩)),Spec.lit (.agg #[.int .u64 xA,.slice pA lA cA]),Spec.litc (.agg #[.bool false,.int .u64 xA,.slice pA lA cA]) (fun w => IsInt w (.agg #[.bool false,.int .u64 xA,.slice pA lA cA]) (absI a)) (fun _ _ h m => h.below m) (fun _ _ _ h t => h.touch t),Spec.lit (.agg #[.bool bA,.int .u64 xA,.slice pA lA cA]),Spec.lit (.int .i64 (sgnI a)),Spec.int (sgnI a),Spec.lit (.agg #[.bool false,.int .u64 0,.slice none 0 0]),Spec.last (fun vs w => (Row3 w c4 (.bool false) (.int .u64 xA) (.slice pA lA cA) ∧ Row3 w c5 (.bool false) (.int .u64 0) (.slice none 0 0) ∧ Row3 w c6 (.bool false) (.int .u64 0) (.slice none 0 0)) ∧ IsInt w (.agg #[.bool false,.int .u64 xA,.slice pA lA cA]) (absI a)) (fun _ _ _ ⟨⟨h1,h2,h3⟩,t⟩ m => ⟨⟨h1.below m h1.lt,h2.below m h2.lt,h3.below m h3.lt⟩,t.below m⟩),Spec.last (fun vs w => ∃ g5 x5 p5 l5 k5,((Row3 w c4 (.bool false) (.int .u64 xA) (.slice pA lA cA) ∧ Row3 w c5 (.bool g5) (.int .u64 x5) (.slice p5 l5 k5) ∧ Row3 w c6 (.bool false) (.int .u64 0) (.slice none 0 0)) ∧ IsInt w (.agg #[.bool false,.int .u64 xA,.slice pA lA cA]) (absI a)) ∧ IsInt w (.agg #[.bool g5,.int .u64 x5,.slice p5 l5 k5]) (sgnI a)) (fun _ _ _ ⟨_,_,_,_,_,⟨⟨h1,h2,h3⟩,t⟩,s⟩ m => ⟨_,_,_,_,_,⟨⟨h1.below m h1.lt,h2.below m h2.lt,h3.below m h3.lt⟩,t.below m⟩,s.below m⟩),Spec.last (fun vs w => ∃ g5 x5 p5 l5 k5,((Row3 w c4 (.bool false) (.int .u64 xA) (.slice pA lA cA) ∧ Row3 w c5 (.bool g5) (.int .u64 x5) (.slice p5 l5 k5) ∧ Row3 w c6 (.bool false) (.int .u64 0) (.slice none 0 0)) ∧ IsInt w (.agg #[.bool false,.int .u64 xA,.slice pA lA cA]) (absI a)) ∧ IsInt w (.agg #[.bool g5,.int .u64 x5,.slice p5 l5 k5]) (sgnI a)) (fun _ _ _ ⟨_,_,_,_,_,⟨⟨h1,h2,h3⟩,t⟩,s⟩ m => ⟨_,_,_,_,_,⟨⟨h1.below m h1.lt,h2.below m h2.lt,h3.below m h3.lt⟩,t.below m⟩,s.below m⟩)] [] (fun k => k = c4 ∨ k = c5 ∨ k = c6) [0,1,2,3,4,5,6,7,8,9] [0,1,2,3,4,5,6,9] (by kernel_rfl) rfl (by kernel_rfl) rfl (fun p h => h.elim (fun h => h ▸ rc4.lt) (fun h => h.elim (fun h => h ▸ rc5.lt) (fun h => h ▸ rc6.lt))) rfl (by kernel_rfl) [(0,some 15),(1,some 16),(2,some 17),(3,some 18),(4,some 19),(5,some 20),(6,some 21),(7,none),(8,none),(9,none)] rfl (AllRuns.cons (some 15) [] [0] rfl rfl rfl rfl none rfl _ _ rfl rfl ?_ (AllRuns.cons (some 16) [(0,some 15)] [1] rfl rfl rfl rfl none rfl _ _ rfl rfl ?_ (AllRuns.cons (some 17) [(1,some 16)] [2] rfl rfl rfl rfl none rfl _ _ rfl rfl ?_ (AllRuns.cons (some 18) [] [3] rfl rfl rfl rfl none rfl _ _ rfl rfl ?_ (AllRuns.cons (some 19) [(3,some 18)] [4] rfl rfl rfl rfl none rfl _ _ rfl rfl ?_ (AllRuns.cons (some 20) [(4,some 19)] [5] rfl rfl rfl rfl none rfl _ _ rfl rfl ?_ (AllRuns.cons (some 21) [] [6] rfl rfl rfl rfl none rfl _ _ rfl rfl ?_ (AllRuns.cons none [(2,some 17)] [] rfl rfl rfl rfl none rfl _ _ rfl rfl ?_ (AllRuns.cons none [(5,some 20),(7,none)] [] rfl rfl rfl rfl none rfl _ _ rfl rfl ?_ (AllRuns.cons none [(6,some 21),(8,none)] [] rfl rfl rfl rfl none rfl _ _ rfl rfl ?_ (AllRuns.nil))))))))))) ?_
  · rintro env W hB - K hK
    simp only [fill,Act.put,List.setIfInBounds_toArray,List.set_cons_zero,List.set_cons_succ] at hK ⊢
    go_simp; exact hid hK _ _ (Below.refl _ _) rfl (novar rfl)
  · rintro env W hB ⟨h0,-⟩ K hK
    have e0 : env 0 = .pointer (some ⟨ca,1,none⟩) := h0
    simp only [fill,Act.put,List.setIfInBounds_toArray,List.set_cons_zero,List.set_cons_succ,e0] at hK ⊢
    have acc := Base.bx hB
    have rr := ra.below acc ra.lt
    have d0 := rr.cell1
    have d1 := rr.cell2
    go_simp; exact hid hK _ _ (Below.refl _ _) rfl (novar rfl)
  · rintro env W hB ⟨h1,-⟩ K hK
    have e1 : env 1 = .agg #[.int .u64 xA,.slice pA lA cA] := h1
    simp only [fill,Act.put,List.setIfInBounds_toArray,List.set_cons_zero,List.set_cons_succ,e1] at hK ⊢
    have acc := Base.bx hB
    go_simp; exact hid hK _ _ (Below.refl _ _) ⟨rfl,nG.below acc⟩ (novar rfl)
  · rintro env W hB - K hK
    simp only [fill,Act.put,List.setIfInBounds_toArray,List.set_cons_zero,List.set_cons_succ] at hK ⊢
    have acc := Base.bx hB
    have rr := ra.below acc ra.lt
    have d0 := rr.cell0
    have d1 := rr.cell1
    have d2 := rr.cell2
    go_simp; exact hid hK _ _ (Below.refl _ _) rfl (novar rfl)
  · rintro env W hB ⟨h3,-⟩ K hK
    have e3 : env 3 = .agg #[.bool bA,.int .u64 xA,.slice pA lA cA] := h3
    simp only [fill,Act.put,List.setIfInBounds_toArray,List.set_cons_zero,List.set_cons_succ,e3] at hK ⊢
    have acc := Base.bx hB
    go_simp
    gi_wp2_with (refine ⟨trivial,?_⟩; gi_at_call 22; refine (callsIn_wide.2 (sign_int _ a W (nA.below acc))).mono ?_; rintro e W2 ⟨rfl,hb⟩)
    exact hid hK _ _ hb rfl (novar rfl)
  · rintro env W hB ⟨h4,-⟩ K hK
    have e4 : env 4 = .int .i64 (sgnI a) := h4
    simp only [fill,Act.put,List.setIfInBounds_toArray,List.set_cons_zero,List.set_cons_succ,e4] at hK ⊢
    go_simp
    gi_wp2_with (refine ⟨trivial,?_⟩; gi_at_call 31; refine (callsIn_wide.2 (of_int (sgnI a) hS W)).mono ?_; rintro e W2 ⟨z0,rfl,i0,hb⟩)
    exact hid hK _ _ hb i0 (novar rfl)
  · rintro env W hB - K hK
    simp only [fill,Act.put,List.setIfInBounds_toArray,List.set_cons_zero,List.set_cons_succ] at hK ⊢
    go_simp; exact hid hK _ _ (Below.refl _ _) rfl (novar rfl)
  · rintro env W hB ⟨h2,-⟩ K hK
    obtain ⟨y2,n2⟩ := h2
    have e2 : env 2 = .agg #[.bool false,.int .u64 xA,.slice pA lA cA] := y2
    replace n2 : IsInt W (.agg #[.bool false,.int .u64 xA,.slice pA lA cA]) (absI a) := n2
    simp only [fill,Act.put,List.setIfInBounds_toArray,List.set_cons_zero,List.set_cons_succ,e2] at hK ⊢
    have acc := Base.bx hB
    have r4 := rc4.below acc rc4.lt
    have r5 := rc5.below acc rc5.lt
    have r6 := rc6.below acc rc6.lt
    have j0 := r4.free 0
    have j1 := r4.free 1
    have j2 := r4.free 2
    have d0 := r4.cell0
    have d1 := r4.cell1
    have d2 := r4.cell2
    have tr := Row3.touch r4 (.bool false) (.int .u64 xA) pA lA cA
    go_simp
    exact hid hK undef _ ⟨c4,.inl rfl,tr.1⟩ ⟨⟨tr.2,((r5.other (a := ⟨c4,0,none⟩) dc5c4 _).other (a := ⟨c4,1,none⟩) dc5c4 _).other (a := ⟨c4,2,none⟩) dc5c4 _,((r6.other (a := ⟨c4,0,none⟩) dc6c4 _).other (a := ⟨c4,1,none⟩) dc6c4 _).other (a := ⟨c4,2,none⟩) dc6c4 _⟩,n2.touch tr.1⟩ (novar rfl)
  · rintro env W hB ⟨h5,h7,-⟩ K hK
    obtain ⟨g5,x5,p5,l5,k5,e5,n5⟩ := IsInt.cells h5
    replace e5 : env 5 = _ := e5
    simp only [fill,Act.put,List.setIfInBounds_toArray,List.set_cons_zero,List.set_cons_succ,e5] at hK ⊢
    obtain ⟨⟨r4,r5,r6⟩,n2⟩ := h7
    have j0 := r5.free 0
    have j1 := r5.free 1
    have j2 := r5.free 2
    have d0 := r5.cell0
    have d1 := r5.cell1
    have d2 := r5.cell2
    have tr := Row3.touch r5 (.bool g5) (.int .u64 x5) p5 l5 k5
    go_simp
    exact hid hK undef _ ⟨c5,.inr (.inl rfl),tr.1⟩ ⟨_,_,_,_,_,⟨⟨((r4.other (a := ⟨c5,0,none⟩) dc4c5 _).other (a := ⟨c5,1,none⟩) dc4c5 _).other (a := ⟨c5,2,none⟩) dc4c5 _,tr.2,((r6.other (a := ⟨c5,0,none⟩) dc6c5 _).other (a := ⟨c5,1,none⟩) dc6c5 _).other (a := ⟨c5,2,none⟩) dc6c5 _⟩,n2.touch tr.1⟩,n5.touch tr.1⟩ (novar rfl)
  · rintro env W hB ⟨h6,h8,-⟩ K hK
    have e6 : env 6 = .agg #[.bool false,.int .u64 0,.slice none 0 0] := h6
    simp only [fill,Act.put,List.setIfInBounds_toArray,List.set_cons_zero,List.set_cons_succ,e6] at hK ⊢
    obtain ⟨g5,x5,p5,l5,k5,⟨⟨r4,r5,r6⟩,n2⟩,n5⟩ := h8
    have j0 := r6.free 0
    have j1 := r6.free 1
    have j2 := r6.free 2
    have d0 := r6.cell0
    have d1 := r6.cell1
    have d2 := r6.cell2
    have tr := Row3.touch r6 (.bool false) (.int .u64 0) none 0 0
    go_simp
    exact hid hK undef _ ⟨c6,.inr (.inr rfl),tr.1⟩ ⟨_,_,_,_,_,⟨⟨((r4.other (a := ⟨c6,0,none⟩) dc4c6 _).other (a := ⟨c6,1,none⟩) dc4c6 _).other (a := ⟨c6,2,none⟩) dc4c6 _,((r5.other (a := ⟨c6,0,none⟩) dc5c6 _).other (a := ⟨c6,1,none⟩) dc5c6 _).other (a := ⟨c6,2,none⟩) dc5c6 _,tr.2⟩,n2.touch tr.1⟩,n5.touch tr.1⟩ (novar rfl)
  · rintro env W9 hB ⟨h0,h1,h2,h3,h4,h5,h6,h9,-⟩ hv hap
    have e0 : env 0 = .pointer (some ⟨ca,1,none⟩) := h0
    have e1 : env 1 = .agg #[.int .u64 xA,.slice pA lA cA] := h1
    have e3 : env 3 = .agg #[.bool bA,.int .u64 xA,.slice pA lA cA] := h3
    have e4 : env 4 = .int .i64 (sgnI a) := h4
    have e6 : env 6 = .agg #[.bool false,.int .u64 0,.slice none 0 0] := h6
    obtain ⟨g8,x8,p8,l8,k8,⟨⟨r4,r5,r6⟩,n2⟩,n8⟩ := h9
    simp only [fill,Act.put,List.setIfInBounds_toArray,List.set_cons_zero,List.set_cons_succ,e0,e1,e3,e4,e6]
    clear h0 e0 h1 e1 h3 e3 h4 e4 h6 e6
    have o9 : Only W2 W9 (fun k => k = c4 ∨ k = c5 ∨ k = c6) := hB
    have bw : Below w.heap.size w W9 := b1.trans ⟨o9.1,o9.2.1,o9.2.2.1,o9.2.2.2.1,fun k hk => o9.2.2.2.2 k (Nat.lt_of_lt_of_le hk b1.size) (fun h => by rcases h with h | h | h <;> (have h : k = _ := h; omega))⟩
    go_wp2_with fail
    exact bodyPost_III Tryz.results11 rfl rfl rfl rfl r4 r5 r6 ⟨_,_,_,rfl,n2,n8,lit0_int _,bw⟩
end Go.Proofs.YtgccgacpifebbaaGreatDoor
