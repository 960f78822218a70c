/- StepS -/
import Derived.Test.YtgccgacpifebbaaGreatDoorZb38
namespace Go.Proofs.YtgccgacpifebbaaGreatDoor
open Go.RowKit
set_option linter.unusedVariables false
set_option maxRecDepth 100000 in
set_option maxHeartbeats 8000000 in
theorem step_sure (D : World → Prop) (P : Nat → Prop) (e : Nat) (X Y p q r t : Int) (w : World) (ew : e < w.heap.size)
    (hp : -2147483648 < p ∧ p < 2147483648) (hq : -2147483648 < q ∧ q < 2147483648) (hr : -2147483648 < r ∧ r < 2147483648) (ht : -2147483648 < t ∧ t < 2147483648)
    (hP : ∀ k,P k → k < w.heap.size)
    (dD : ∀ W W',D W → W.heap.size ≤ W'.heap.size → (∀ k,k < W.heap.size → k ≠ w.heap.size → W'.heap[k]? = W.heap[k]?) → D W')
    (hto : ∀ W,Below w.heap.size w W → Calls Tryz.prog 65 #[.pointer (some ⟨e,0,none⟩)] W fun ev W' => ev = .returned (.tuple #[.int .i64 X,.int .i64 Y]) ∧ Below W.heap.size W W')
    (hsu : ∀ W,Calls Tryz.prog 64 #[.int .i64 X,.int .i64 Y] W fun ev W' => ev = .returned (.tuple #[.agg #[.int .i64 p,.int .i64 q,.int .i64 r,.int .i64 t],.bool true]) ∧ Below W.heap.size W W')
    (hby : ∀ W,Below w.heap.size w W → w.heap.size < W.heap.size → Calls Tryz.prog 66 #[.pointer (some ⟨e,0,none⟩),.agg #[.int .i64 p,.int .i64 q,.int .i64 r,.int .i64 t]] W fun ev W' => ev = .returned (.tuple #[]) ∧ D W' ∧ Only W W' P) :
    Calls Tryz.prog 34 #[.pointer (some ⟨e,0,none⟩)] w fun rr w' => ∃ v,rr = .returned v ∧ IsTurn w' v p q r t ∧ D w' ∧ Only w w' P := by
  obtain ⟨O0,hO⟩ : ∃ O0,w.alloc (.cells #[.bool false,.int .u64 0,.slice none 0 0,.bool false,.int .u64 0,.slice none 0 0,.bool false,.int .u64 0,.slice none 0 0,.bool false,.int .u64 0,.slice none 0 0] 73) = O0 := ⟨_,rfl⟩
  have b0 : Below w.heap.size w O0 := by subst hO; go_grown
  have hT : Row12 O0 w.heap.size (.bool false) (.int .u64 0) (.slice none 0 0) (.bool false) (.int .u64 0) (.slice none 0 0) (.bool false) (.int .u64 0) (.slice none 0 0) (.bool false) (.int .u64 0) (.slice none 0 0) := by subst hO; exact heap_new w _ _ rfl
  go_enter Tryz.func34,Tryz.ntmps34
  go_wp2_with fail
  obtain ⟨s,hs⟩ : ∃ s,w.heap.size = s := ⟨_,rfl⟩
  rw [hs] at hT ⊢
  refine (hto O0 b0).mono ?_
  rintro rr W1 ⟨rfl,b1⟩
  replace hT := hT.below b1 hT.lt
  replace b1 := below_acc b0 b0.size b1
  clear b0 hO
  go_wp2_with fail
  refine (hsu W1).mono ?_
  rintro rr W2 ⟨rfl,b2⟩
  replace hT := hT.below b2 hT.lt
  replace b2 := below_acc b1 b1.size b2
  clear b1
  go_wp2_with fail
  have b3 : Below W2.heap.size W2 (W2.alloc (.cells #[.int .i64 p,.int .i64 q,.int .i64 r,.int .i64 t] 110)) := by go_grown
  have hL : Row4 (W2.alloc (.cells #[.int .i64 p,.int .i64 q,.int .i64 r,.int .i64 t] 110)) W2.heap.size p q r t := heap_new W2 _ _ rfl
  replace hT := hT.below b3 hT.lt
  have b4 := below_acc b2 b2.size b3
  have hls : w.heap.size ≤ W2.heap.size := b2.size
  generalize (W2.alloc (.cells #[.int .i64 p,.int .i64 q,.int .i64 r,.int .i64 t] 110)) = W3 at b3 hL hT b4 ⊢
  obtain ⟨cl,hcl⟩ : ∃ cl,W2.heap.size = cl := ⟨_,rfl⟩
  rw [hcl] at hL hls ⊢
  clear b2 b3
  have qq := hby W3 b4 (by have := hT.lt; omega)
  refine qq.mono ?_
  rintro rr W4 ⟨rfl,hD,hO⟩
  have hT4 : Row12 W4 s _ _ _ _ _ _ _ _ _ _ _ _ := (hO.2.2.2.2 s hT.lt (fun h => by have := hP s h; omega)).trans hT
  have hL4 : Row4 W4 cl p q r t := (hO.2.2.2.2 cl hL.lt (fun h => by have := hP cl h; omega)).trans hL
  have hOw : Only w W4 P := ⟨hO.1.trans b4.os,hO.2.1.trans b4.tape,hO.2.2.1.trans b4.output,Nat.le_trans b4.size hO.2.2.2.1,fun k hk hp => (hO.2.2.2.2 k (Nat.lt_of_lt_of_le hk b4.size) hp).trans (b4.block k hk)⟩
  clear hO hT hL b4 qq
  go_wp2_with fail
  have HL : ∀ W,Below W4.heap.size W4 W → Row4 W cl p q r t := fun W h => hL4.below h hL4.lt
  have HT : ∀ W,Below W4.heap.size W4 W → Row12 W s _ _ _ _ _ _ _ _ _ _ _ _ := fun W h => hT4.below h hT4.lt
  refine wpIn_wide (n := 5) |>.1 ?_
  refine region_rg [⟨some 20,[],[0],false,none,[],[],false,false,false⟩,⟨some 21,[(0,some 20)],[1],false,none,[],[],false,false,false⟩,⟨some 22,[(1,some 21)],[2],false,none,[],[],false,true,false⟩,⟨some 23,[(2,some 22)],[3],false,none,[],[],false,false,false⟩,⟨some 24,[],[4],false,none,[],[],false,false,false⟩,⟨some 25,[(4,some 24)],[5],false,none,[],[],false,false,false⟩,⟨some 26,[(5,some 25)],[6],false,none,[],[],false,true,false⟩,⟨some 27,[(6,some 26)],[7],false,none,[],[3],false,false,false⟩,⟨some 28,[(3,some 23),(7,some 27)],[8],false,none,[],[],false,false,false⟩,⟨some 29,[],[9],false,none,[],[],false,false,false⟩,⟨some 30,[(9,some 29)],[10],false,none,[],[],false,false,false⟩,⟨some 31,[(10,some 30)],[11],false,none,[],[],false,true,false⟩,⟨some 32,[(11,some 31)],[12],false,none,[],[7],false,false,false⟩,⟨some 33,[],[13],false,none,[],[],false,false,false⟩,⟨some 34,[(13,some 33)],[14],false,none,[],[],false,false,false⟩,⟨some 35,[(14,some 34)],[15],false,none,[],[],false,true,false⟩,⟨some 36,[(15,some 35)],[16],false,none,[],[12],false,false,false⟩,⟨some 37,[(12,some 32),(16,some 36)],[17],false,none,[],[],false,false,false⟩,⟨some 38,[(8,some 28),(17,some 37)],[18],false,none,[],[],false,false,false⟩,⟨none,[(18,some 38)],[],false,none,[],[0,1,2,3,4,5,6,7,8,9,10,11,12,13,14,15,16,17],true,true,true⟩] [Spec.lit (.pointer (some ⟨cl,0,none⟩)),Spec.lit (.pointer (some ⟨cl,0,none⟩)),Spec.lit (.int .i64 p),Spec.int (p),Spec.lit (.pointer (some ⟨cl,0,none⟩)),Spec.lit (.pointer (some ⟨cl,1,none⟩)),Spec.lit (.int .i64 q),Spec.int (q),Spec.twoI p q,Spec.lit (.pointer (some ⟨cl,2,none⟩)),Spec.lit (.pointer (some ⟨cl,2,none⟩)),Spec.lit (.int .i64 r),Spec.int (r),Spec.lit (.pointer (some ⟨cl,2,none⟩)),Spec.lit (.pointer (some ⟨cl,3,none⟩)),Spec.lit (.int .i64 t),Spec.int (t),Spec.twoI r t,Spec.turn p q r t,Spec.last (fun vs w => ∃ t0 t1 u0 u1 y0 y1 z0 z1 q0 q1 r0 r1 m0 m1 n0 n1 d0 d1 f0 f1,Row12 w s (.bool t0) (.int .u64 y0) (.slice q0 m0 d0) (.bool t1) (.int .u64 y1) (.slice q1 m1 d1) (.bool u0) (.int .u64 z0) (.slice r0 n0 f0) (.bool u1) (.int .u64 z1) (.slice r1 n1 f1) ∧ IsTurn w (.agg #[.bool t0,.int .u64 y0,.slice q0 m0 d0,.bool t1,.int .u64 y1,.slice q1 m1 d1,.bool u0,.int .u64 z0,.slice r0 n0 f0,.bool u1,.int .u64 z1,.slice r1 n1 f1]) p q r t) (fun _ _ _ ⟨_,_,_,_,_,_,_,_,_,_,_,_,_,_,_,_,_,_,_,_,h,t⟩ b => ⟨_,_,_,_,_,_,_,_,_,_,_,_,_,_,_,_,_,_,_,_,h.below b h.lt,t.below b⟩)] [] (fun k => k = s) [0,1,2,3,4,5,6,7,8,9,10,11,12,13,14,15,16,17,18,19] [0,1,2,3,4,5,6,7,8,9,10,11,12,13,14,15,16,17,18,19] (by kernel_rfl) rfl (by kernel_rfl) rfl (fun p h => (show p = s from h) ▸ hT4.lt) rfl (by kernel_rfl) [(0,some 20),(1,some 21),(2,some 22),(3,some 23),(4,some 24),(5,some 25),(6,some 26),(7,some 27),(8,some 28),(9,some 29),(10,some 30),(11,some 31),(12,some 32),(13,some 33),(14,some 34),(15,some 35),(16,some 36),(17,some 37),(18,some 38),(19,none)] rfl (AllRuns.cons (some 20) [] [0] rfl rfl rfl rfl none rfl _ _ rfl rfl ?_ (AllRuns.cons (some 21) [(0,some 20)] [1] rfl rfl rfl rfl none rfl _ _ rfl rfl ?_ (AllRuns.cons (some 22) [(1,some 21)] [2] rfl rfl rfl rfl none rfl _ _ rfl rfl ?_ (AllRuns.cons (some 23) [(2,some 22)] [3] rfl rfl rfl rfl none rfl _ _ rfl rfl ?_ (AllRuns.cons (some 24) [] [4] rfl rfl rfl rfl none rfl _ _ rfl rfl ?_ (AllRuns.cons (some 25) [(4,some 24)] [5] rfl rfl rfl rfl none rfl _ _ rfl rfl ?_ (AllRuns.cons (some 26) [(5,some 25)] [6] rfl rfl rfl rfl none rfl _ _ rfl rfl ?_ (AllRuns.cons (some 27) [(6,some 26)] [7] rfl rfl rfl rfl none rfl _ _ rfl rfl ?_ (AllRuns.cons (some 28) [(3,some 23),(7,some 27)] [8] rfl rfl rfl rfl none rfl _ _ rfl rfl ?_ (AllRuns.cons (some 29) [] [9] rfl rfl rfl rfl none rfl _ _ rfl rfl ?_ (AllRuns.cons (some 30) [(9,some 29)] [10] rfl rfl rfl rfl none rfl _ _ rfl rfl ?_ (AllRuns.cons (some 31) [(10,some 30)] [11] rfl rfl rfl rfl none rfl _ _ rfl rfl ?_ (AllRuns.cons (some 32) [(11,some 31)] [12] rfl rfl rfl rfl none rfl _ _ rfl rfl ?_ (AllRuns.cons (some 33) [] [13] rfl rfl rfl rfl none rfl _ _ rfl rfl ?_ (AllRuns.cons (some 34) [(13,some 33)] [14] rfl rfl rfl rfl none rfl _ _ rfl rfl ?_ (AllRuns.cons (some 35) [(14,some 34)] [15] rfl rfl rfl rfl none rfl _ _ rfl rfl ?_ (AllRuns.cons (some 36) [(15,some 35)] [16] rfl rfl rfl rfl none rfl _ _ rfl rfl ?_ (AllRuns.cons (some 37) [(12,some 32),(16,some 36)] [17] rfl rfl rfl rfl none rfl _ _ rfl rfl ?_ (AllRuns.cons (some 38) [(8,some 28),(17,some 37)] [18] rfl rfl rfl rfl none rfl _ _ rfl rfl ?_ (AllRuns.cons none [(18,some 38)] [] rfl rfl rfl rfl none rfl _ _ rfl rfl ?_ (AllRuns.nil))))))))))))))))))))) ?_
  · rintro env W hB - K hK
    simp only [fill,Act.put,List.setIfInBounds_toArray,List.set_cons_zero,List.set_cons_succ] at hK ⊢
    go_simp; exact hid hK _ _ (Below.refl _ _) rfl (novar rfl)
  · rintro env W hB ⟨h0,-⟩ K hK
    have e0 : env 0 = .pointer (some ⟨cl,0,none⟩) := h0
    simp only [fill,Act.put,List.setIfInBounds_toArray,List.set_cons_zero,List.set_cons_succ,e0] at hK ⊢
    go_simp; exact hid hK _ _ (Below.refl _ _) rfl (novar rfl)
  · rintro env W hB ⟨h1,-⟩ K hK
    have e1 : env 1 = .pointer (some ⟨cl,0,none⟩) := h1
    simp only [fill,Act.put,List.setIfInBounds_toArray,List.set_cons_zero,List.set_cons_succ,e1] at hK ⊢
    have rr := HL W (Base.bx hB)
    have d0 := rr.cell0
    go_simp; exact hid hK _ _ (Below.refl _ _) rfl (novar rfl)
  · rintro env W hB ⟨h2,-⟩ K hK
    have e2 : env 2 = .int .i64 p := h2
    simp only [fill,Act.put,List.setIfInBounds_toArray,List.set_cons_zero,List.set_cons_succ,e2] at hK ⊢
    go_simp
    gi_wp2_with (refine ⟨trivial,?_⟩; gi_at_call 31; refine (callsIn_wide.2 (of_int p (by omega) W)).mono ?_; rintro e W2 ⟨z0,rfl,i0,hb⟩)
    exact hid hK _ _ hb i0 (novar rfl)
  · rintro env W hB - K hK
    simp only [fill,Act.put,List.setIfInBounds_toArray,List.set_cons_zero,List.set_cons_succ] at hK ⊢
    go_simp; exact hid hK _ _ (Below.refl _ _) rfl (novar rfl)
  · rintro env W hB ⟨h4,-⟩ K hK
    have e4 : env 4 = .pointer (some ⟨cl,0,none⟩) := h4
    simp only [fill,Act.put,List.setIfInBounds_toArray,List.set_cons_zero,List.set_cons_succ,e4] at hK ⊢
    go_simp; exact hid hK _ _ (Below.refl _ _) rfl (novar rfl)
  · rintro env W hB ⟨h5,-⟩ K hK
    have e5 : env 5 = .pointer (some ⟨cl,1,none⟩) := h5
    simp only [fill,Act.put,List.setIfInBounds_toArray,List.set_cons_zero,List.set_cons_succ,e5] at hK ⊢
    have rr := HL W (Base.bx hB)
    have d0 := rr.cell1
    go_simp; exact hid hK _ _ (Below.refl _ _) rfl (novar rfl)
  · rintro env W hB ⟨h6,-⟩ K hK
    have e6 : env 6 = .int .i64 q := h6
    simp only [fill,Act.put,List.setIfInBounds_toArray,List.set_cons_zero,List.set_cons_succ,e6] at hK ⊢
    go_simp
    gi_wp2_with (refine ⟨trivial,?_⟩; gi_at_call 31; refine (callsIn_wide.2 (of_int q (by omega) W)).mono ?_; rintro e W2 ⟨z0,rfl,i0,hb⟩)
    exact hid hK _ _ hb i0 (novar rfl)
  · rintro env W hB ⟨h3,h7,-⟩ K hK
    obtain ⟨b3,x3,p3,l3,c3,e3,g3⟩ := IsInt.cells h3
    replace e3 : env 3 = _ := e3
    obtain ⟨b7,x7,p7,l7,c7,e7,g7⟩ := IsInt.cells h7
    replace e7 : env 7 = _ := e7
    simp only [fill,Act.put,List.setIfInBounds_toArray,List.set_cons_zero,List.set_cons_succ,e3,e7] at hK ⊢
    go_simp; exact hid hK _ _ (Below.refl _ _) ⟨_,_,_,_,_,_,_,_,_,_,rfl,g3,g7⟩ (novar rfl)
  · rintro env W hB - K hK
    simp only [fill,Act.put,List.setIfInBounds_toArray,List.set_cons_zero,List.set_cons_succ] at hK ⊢
    go_simp; exact hid hK _ _ (Below.refl _ _) rfl (novar rfl)
  · rintro env W hB ⟨h9,-⟩ K hK
    have e9 : env 9 = .pointer (some ⟨cl,2,none⟩) := h9
    simp only [fill,Act.put,List.setIfInBounds_toArray,List.set_cons_zero,List.set_cons_succ,e9] at hK ⊢
    go_simp; exact hid hK _ _ (Below.refl _ _) rfl (novar rfl)
  · rintro env W hB ⟨h10,-⟩ K hK
    have e10 : env 10 = .pointer (some ⟨cl,2,none⟩) := h10
    simp only [fill,Act.put,List.setIfInBounds_toArray,List.set_cons_zero,List.set_cons_succ,e10] at hK ⊢
    have rr := HL W (Base.bx hB)
    have d0 := rr.cell2
    go_simp; exact hid hK _ _ (Below.refl _ _) rfl (novar rfl)
  · rintro env W hB ⟨h11,-⟩ K hK
    have e11 : env 11 = .int .i64 r := h11
    simp only [fill,Act.put,List.setIfInBounds_toArray,List.set_cons_zero,List.set_cons_succ,e11] at hK ⊢
    go_simp
    gi_wp2_with (refine ⟨trivial,?_⟩; gi_at_call 31; refine (callsIn_wide.2 (of_int r (by omega) W)).mono ?_; rintro e W2 ⟨z0,rfl,i0,hb⟩)
    exact hid hK _ _ hb i0 (novar rfl)
  · rintro env W hB - K hK
    simp only [fill,Act.put,List.setIfInBounds_toArray,List.set_cons_zero,List.set_cons_succ] at hK ⊢
    go_simp; exact hid hK _ _ (Below.refl _ _) rfl (novar rfl)
  · rintro env W hB ⟨h13,-⟩ K hK
    have e13 : env 13 = .pointer (some ⟨cl,2,none⟩) := h13
    simp only [fill,Act.put,List.setIfInBounds_toArray,List.set_cons_zero,List.set_cons_succ,e13] at hK ⊢
    go_simp; exact hid hK _ _ (Below.refl _ _) rfl (novar rfl)
  · rintro env W hB ⟨h14,-⟩ K hK
    have e14 : env 14 = .pointer (some ⟨cl,3,none⟩) := h14
    simp only [fill,Act.put,List.setIfInBounds_toArray,List.set_cons_zero,List.set_cons_succ,e14] at hK ⊢
    have rr := HL W (Base.bx hB)
    have d0 := rr.cell3
    go_simp; exact hid hK _ _ (Below.refl _ _) rfl (novar rfl)
  · rintro env W hB ⟨h15,-⟩ K hK
    have e15 : env 15 = .int .i64 t := h15
    simp only [fill,Act.put,List.setIfInBounds_toArray,List.set_cons_zero,List.set_cons_succ,e15] at hK ⊢
    go_simp
    gi_wp2_with (refine ⟨trivial,?_⟩; gi_at_call 31; refine (callsIn_wide.2 (of_int t (by omega) W)).mono ?_; rintro e W2 ⟨z0,rfl,i0,hb⟩)
    exact hid hK _ _ hb i0 (novar rfl)
  · rintro env W hB ⟨h12,h16,-⟩ K hK
    obtain ⟨b12,x12,p12,l12,c12,e12,g12⟩ := IsInt.cells h12
    replace e12 : env 12 = _ := e12
    obtain ⟨b16,x16,p16,l16,c16,e16,g16⟩ := IsInt.cells h16
    replace e16 : env 16 = _ := e16
    simp only [fill,Act.put,List.setIfInBounds_toArray,List.set_cons_zero,List.set_cons_succ,e12,e16] at hK ⊢
    go_simp; exact hid hK _ _ (Below.refl _ _) ⟨_,_,_,_,_,_,_,_,_,_,rfl,g12,g16⟩ (novar rfl)
  · rintro env W hB ⟨h8,h17,-⟩ K hK
    obtain ⟨a8,b8,c8,d8,f8,k8,m8,n8,u8,v8,e8,g8,j8⟩ := h8
    replace e8 : env 8 = _ := e8
    obtain ⟨a17,b17,c17,d17,f17,k17,m17,n17,u17,v17,e17,g17,j17⟩ := h17
    replace e17 : env 17 = _ := e17
    simp only [fill,Act.put,List.setIfInBounds_toArray,List.set_cons_zero,List.set_cons_succ,e8,e17] at hK ⊢
    go_simp; exact hid hK _ _ (Below.refl _ _) ⟨_,_,_,_,_,_,_,_,_,_,_,_,_,_,_,_,_,_,_,_,rfl,g8,j8,g17,j17⟩ (novar rfl)
  · rintro env W hB ⟨h18,-⟩ K hK
    obtain ⟨t0,t1,u0,u1,y0,y1,z0,z1,q0,q1,r0,r1,m0,m1,n0,n1,d0,d1,f0,f1,e18,ht7⟩ := h18
    replace e18 : env 18 = _ := e18
    simp only [fill,Act.put,List.setIfInBounds_toArray,List.set_cons_zero,List.set_cons_succ,e18] at hK ⊢
    have rr := HT W (Base.bx hB)
    have j0 := rr.free 0
    have j1 := rr.free 1
    have j2 := rr.free 2
    have j3 := rr.free 3
    have j4 := rr.free 4
    have j5 := rr.free 5
    have j6 := rr.free 6
    have j7 := rr.free 7
    have j8 := rr.free 8
    have j9 := rr.free 9
    have j10 := rr.free 10
    have j11 := rr.free 11
    have k0 := rr.cell0
    have k1 := rr.cell1
    have k2 := rr.cell2
    have k3 := rr.cell3
    have k4 := rr.cell4
    have k5 := rr.cell5
    have k6 := rr.cell6
    have k7 := rr.cell7
    have k8 := rr.cell8
    have k9 := rr.cell9
    have k10 := rr.cell10
    have k11 := rr.cell11
    go_simp
    have tr := Row12.touch (w := W) (b := s) rr (.bool t0) (.int .u64 y0) (.bool t1) (.int .u64 y1) (.slice q1 m1 d1) (.bool u0) (.int .u64 z0) (.slice r0 n0 f0) (.bool u1) (.int .u64 z1) (.slice r1 n1 f1) q0 m0 d0 rfl
    exact hid hK undef _ ⟨s,rfl,tr.1⟩ ⟨_,_,_,_,_,_,_,_,_,_,_,_,_,_,_,_,_,_,_,_,tr.2,IsTurn.touch ⟨_,_,_,_,_,_,_,_,_,_,_,_,_,_,_,_,_,_,_,_,rfl,ht7⟩ tr.1⟩ (novar rfl)
  · rintro env W7 hB ⟨h0,h1,h2,h3,h4,h5,h6,h7,h8,h9,h10,h11,h12,h13,h14,h15,h16,h17,h18,h19,-⟩ hv hap
    have e0 : env 0 = .pointer (some ⟨cl,0,none⟩) := h0
    have e1 : env 1 = .pointer (some ⟨cl,0,none⟩) := h1
    have e2 : env 2 = .int .i64 p := h2
    have e4 : env 4 = .pointer (some ⟨cl,0,none⟩) := h4
    have e5 : env 5 = .pointer (some ⟨cl,1,none⟩) := h5
    have e6 : env 6 = .int .i64 q := h6
    have e9 : env 9 = .pointer (some ⟨cl,2,none⟩) := h9
    have e10 : env 10 = .pointer (some ⟨cl,2,none⟩) := h10
    have e11 : env 11 = .int .i64 r := h11
    have e13 : env 13 = .pointer (some ⟨cl,2,none⟩) := h13
    have e14 : env 14 = .pointer (some ⟨cl,3,none⟩) := h14
    have e15 : env 15 = .int .i64 t := h15
    obtain ⟨t0,t1,u0,u1,y0,y1,z0,z1,q0,q1,r0,r1,m0,m1,n0,n1,d0,d1,f0,f1,rT,tT⟩ := h19
    simp only [fill,Act.put,List.setIfInBounds_toArray,List.set_cons_zero,List.set_cons_succ,e0,e1,e2,e4,e5,e6,e9,e10,e11,e13,e14,e15]
    clear h0 e0 h1 e1 h2 e2 h4 e4 h5 e5 h6 e6 h9 e9 h10 e10 h11 e11 h13 e13 h14 e14 h15 e15
    have o7 : Base W4 (fun k => k = s) W7 := hB
    have hD7 := dD W4 W7 hD o7.2.2.2.1 (fun k hk hne => o7.2.2.2.2 k hk (fun h => hne (by have h : k = s := h; omega)))
    have oW : Only w W7 P := ⟨o7.1.trans hOw.1,o7.2.1.trans hOw.2.1,o7.2.2.1.trans hOw.2.2.1,Nat.le_trans hOw.2.2.2.1 o7.2.2.2.1,fun k hk hp => (o7.2.2.2.2 k (Nat.lt_of_lt_of_le hk hOw.2.2.2.1) (fun h => by have h : k = s := h; omega)).trans (hOw.2.2.2.2 k hk hp)⟩
    go_wp2_with fail
    exact bodyPost_ret (v := .agg #[.bool t0,.int .u64 y0,.slice q0 m0 d0,.bool t1,.int .u64 y1,.slice q1 m1 d1,.bool u0,.int .u64 z0,.slice r0 n0 f0,.bool u1,.int .u64 z1,.slice r1 n1 f1]) (results_cell_row Tryz.results34 _ _ s _ _ (0,0) _ rfl rT Tryz.underlying73 rfl (by kernel_rfl)) rfl ⟨_,rfl,tT,hD7,oW⟩
end Go.Proofs.YtgccgacpifebbaaGreatDoor
