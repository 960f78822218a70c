/- whole: the document's division,rounded down. (gen_divr.py) -/
import Derived.Test.YtogildikglomkaaGreatDoorRGK
import Derived.Test.YtogildikglomkaaGreatDoorWhoRef
import Derived.Test.YtogildikglomkaaGreatDoorRefDivAny
import Derived.Test.YtogildikglomkaaGreatDoorWhoU
namespace Go.Proofs.YtogildikglomkaaGreatDoor
open Go.RowKit
set_option linter.unusedVariables false

theorem IsNum.touch {w w' : World} {p : Nat} {v : Value} {n : Int} (h : IsNum w v n) (ht : Touch p w w') : IsNum w' v n := by
  obtain ⟨L,h1,h2,h3⟩ := h
  refine ⟨L,?_,h2,h3⟩
  rcases h1 with h | ⟨b,t,len,cap,l,hv,ha,r⟩
  · exact .inl h
  · exact .inr ⟨b,t,len,cap,l,hv,ha.touch ht,r⟩
theorem IsR.touch {w w' : World} {p : Nat} {v : Value} {z : Int} (h : IsR w v z) (ht : Touch p w w') : IsR w' v z := by
  obtain ⟨b,q,l,c,hv,hb,hn⟩ := h
  exact ⟨b,q,l,c,hv,hb,hn.touch ht⟩
theorem IsR.cells {w : World} {v : Value} {z : Int} (h : IsR w v z) : ∃ b p l c,v = .agg #[.bool b,.slice p l c] ∧ IsR w (.agg #[.bool b,.slice p l c]) z := by
  obtain ⟨b,p,l,c,rfl,hb,hn⟩ := h
  exact ⟨b,p,l,c,rfl,b,p,l,c,rfl,hb,hn⟩
def Spec.R (z : Int) : Spec := ⟨fun vs w => IsR w (vs.headD undef) z,false,false,fun _ _ _ h b => h.below b,fun _ _ _ _ _ h t _ => h.touch t⟩
theorem RowR.touch {w : World} {c : Nat} {x : Value} {p : Option Addr} {l k : Nat} (h : RowR w c x (.slice p l k)) (y : Value) (q : Option Addr) (m j : Nat) :
    Touch c w ((w.setCell ⟨c,0,none⟩ y).setCell ⟨c,1,none⟩ (.slice q m j)) ∧ RowR ((w.setCell ⟨c,0,none⟩ y).setCell ⟨c,1,none⟩ (.slice q m j)) c y (.slice q m j) :=
  ⟨⟨((Chg.refl c w).set 0 y).set 1 _,_,_,_,h,h.set2 _ _,rfl,⟨1,_,_,_,rfl⟩,⟨1,_,_,_,rfl⟩⟩,h.set2 _ _⟩
def RetRR (q r : Int) (w : World) (e : Ending) (w' : World) : Prop := ∃ v1 v2,e = .returned (.tuple #[v1,v2]) ∧ IsR w' v1 q ∧ IsR w' v2 r ∧ Below w.heap.size w w'
theorem bodyPost_RR {fn : Func} {p q : Tmp} (h : fn.results = #[.cell p 49,.cell q 49]) {w w' : World} {a : Act} {b1 b2 : Bool} {p1 p2 : Option Addr} {l1 k1 l2 k2 : Nat} {Q R : Int} {c d : Nat} (hd : a.defers = [])
    (hp : a.tmps.getD p undef = .pointer (some ⟨c,0,none⟩)) (hq : a.tmps.getD q undef = .pointer (some ⟨d,0,none⟩)) (hc : RowR w' c (.bool b1) (.slice p1 l1 k1)) (hd' : RowR w' d (.bool b2) (.slice p2 l2 k2))
    (h1 : IsR w' (.agg #[.bool b1,.slice p1 l1 k1]) Q) (h2 : IsR w' (.agg #[.bool b2,.slice p2 l2 k2]) R) (hB : Below w.heap.size w w') : bodyPost Tryz.prog fn (RetRR Q R w) .ret a w' := by
  refine bodyPost_ret (v := .tuple #[.agg #[.bool b1,.slice p1 l1 k1],.agg #[.bool b2,.slice p2 l2 k2]]) ?_ hd ⟨_,_,rfl,h1,h2,hB⟩
  have hp' : a.tmps[p]?.getD undef = .pointer (some ⟨c,0,none⟩) := by simpa using hp
  have hq' : a.tmps[q]?.getD undef = .pointer (some ⟨d,0,none⟩) := by simpa using hq
  simp [results,h,hp',hq',asAddr,run_loadVar_R hc,run_loadVar_R hd']
theorem intOf_1 (w : World) : Calls Tryz.prog 57 #[.int .i64 1] w (RetR 1 w) := by
  have b0 : Below w.heap.size w (w.alloc (.cells #[.bool false,.slice none 0 0] 49)) := by go_grown
  have r0 := RowR.new w (.bool false) (.slice none 0 0) w.heap.size rfl
  go_enter Tryz.func57,Tryz.ntmps57
  go_wp2_with fail
  refine (natOf_num 1 ⟨by decide,by decide⟩ _).mono ?_
  rintro e W1 ⟨s,rfl,hs,b1⟩
  replace r0 := r0.below b1 r0.lt
  replace b1 := below_acc b0 b0.size b1
  go_wp2_with fail
  refine (I_shape false s 1 1 rfl W1 hs).mono ?_
  rintro e W2 ⟨g,p,l,k,rfl,hg,hn,b2⟩
  replace r0 := r0.below b2 r0.lt
  replace b2 := below_acc b1 b1.size b2
  clear b0 b1 hs
  have c0 := r0.cell0
  have c1 := r0.cell1
  have f0 := r0.free 0
  have f1 := r0.free 1
  have g3 := r0.set2 (.bool g) (.slice p l k)
  have hn3 := hn.rowR r0 0 1 (.bool g) (.slice p l k)
  have hB3 := (b2.setCell (p := ⟨w.heap.size,0,none⟩) (Nat.le_refl _) (.bool g)).setCell (p := ⟨w.heap.size,1,none⟩) (Nat.le_refl _) (.slice p l k)
  go_wp2_with fail
  exact bodyPost_R Tryz.results57 rfl rfl g3 hg.out hn3 hB3
set_option maxRecDepth 100000 in
set_option maxHeartbeats 40000000 in
theorem intDiv_R (L : Nat) (hL : L ≤ 100000) (u v : Value) (a b zq zr : Int) (w : World) (hu : IsR w u a) (hv : IsR w v b) (hb0 : b ≠ 0) (haL : absI a < lpw L) (hbL : absI b < lpw L)
    (hq : Hid ((if (decide (a < 0) != decide (b < 0)) = true then -(absI a / absI b) else absI a / absI b) = zq)) (hzL : absI zq < lpw L) (hyL : absI (zq - 1) < lpw L) (h1L : absI 1 < lpw L) (haL2 : absI a < lpw (L + L)) (hmL : absI (zq * b) < lpw (L + L)) (hnL : absI ((zq - 1) * b) < lpw (L + L))
    (hr : Hid ((if (decide (a < 0) != decide (b < 0)) = true ∧ 0 < absI a % absI b then zq - 1 else zq) = zr)) : Calls Tryz.prog 23 #[u,v] w (RetRR zr (a - zr * b) w) := by
  obtain ⟨bA,pA,lA,cA,rfl,hbA,hA⟩ := hu
  obtain ⟨bB,pB,lB,cB,rfl,hbB,hB0⟩ := hv
  obtain ⟨O,hO⟩ : ∃ O,(((w.alloc (.cells #[.bool bA,.slice pA lA cA] 49)).alloc (.cells #[.bool bB,.slice pB lB cB] 49)).alloc (.cells #[.bool false,.slice none 0 0] 49)).alloc (.cells #[.bool false,.slice none 0 0] 49) = O := ⟨_,rfl⟩
  have b0 : Below w.heap.size w O := by subst hO; go_grown
  have ra : RowR O w.heap.size (.bool bA) (.slice pA lA cA) := by subst hO; exact (((RowR.new w _ _ _ rfl).alloc _).alloc _).alloc _
  have rb : RowR O (w.heap.size + 1) (.bool bB) (.slice pB lB cB) := by subst hO; exact ((RowR.new _ _ _ _ (by simp)).alloc _).alloc _
  have r4 : RowR O (w.heap.size + 1 + 1) (.bool false) (.slice none 0 0) := by subst hO; exact (RowR.new _ _ _ _ (by simp)).alloc _
  have r5 : RowR O (w.heap.size + 1 + 1 + 1) (.bool false) (.slice none 0 0) := by subst hO; exact RowR.new _ _ _ _ (by simp)
  have nA : IsR O (.agg #[.bool bA,.slice pA lA cA]) a := ⟨_,_,_,_,rfl,hbA,hA.below b0⟩
  have nB : IsR O (.agg #[.bool bB,.slice pB lB cB]) b := ⟨_,_,_,_,rfl,hbB,hB0.below b0⟩
  have dv := fun W (h : Below O.heap.size O W) => natDiv_num L hL (.slice pA lA cA) (.slice pB lB cB) (absI a) (absI b) W ((hA.below b0).below h) ((hB0.below b0).below h) (by unfold absI; split <;> omega) haL hbL
  have hS : Hid ((decide (a < 0) != decide (b < 0)) = (bA != bB)) := by rw [hbA,hbB]; rfl
  have hI := fun s W (h : IsNum W s (absI a / absI b)) => I_shape (bA != bB) s (absI a / absI b) zq (by rw [← hS.out]; exact hq.out) W h
  have hT : Hid ((if (bA != bB) = true ∧ 0 < absI a % absI b then zq - 1 else zq) = zr) := by rw [← hS.out]; exact hr
  clear hbA hbB hA hB0 hq hr hS
  have a1 := ra.cell1
  have e1 := rb.cell1
  go_enter Tryz.func23,Tryz.ntmps23
  go_wp2_with fail
  clear a1 e1
  refine (dv O (Below.refl _ _)).mono ?_
  rintro e W1 ⟨s,t,rfl,hs,ht,b1⟩
  obtain ⟨pt,lt,ct,rfl,hlt,-⟩ := ht.shape2
  have hi := hI s W1 hs
  clear dv hI hs ht
  replace ra := ra.below b1 ra.lt
  replace rb := rb.below b1 rb.lt
  replace r4 := r4.below b1 r4.lt
  replace r5 := r5.below b1 r5.lt
  replace nA := nA.below b1
  replace nB := nB.below b1
  replace b1 := below_acc b0 b0.size b1
  clear b0 hO
  have a0 := ra.cell0
  have e0 := rb.cell0
  go_wp2_with fail
  refine hi.mono ?_
  rintro e W2 ⟨b2,p2,l2,k2,rfl,hz2,hn2,bb⟩
  have n2 : IsR W2 (.agg #[.bool b2,.slice p2 l2 k2]) zq := ⟨_,_,_,_,rfl,hz2.out,hn2⟩
  clear hi hz2 hn2 a0 e0
  replace ra := ra.below bb ra.lt
  replace rb := rb.below bb rb.lt
  replace r4 := r4.below bb r4.lt
  replace r5 := r5.below bb r5.lt
  replace nA := nA.below bb
  replace nB := nB.below bb
  replace b1 := below_acc b1 b1.size bb
  clear bb
  obtain ⟨W3,hW3⟩ : ∃ W3,W2.alloc (.cells #[.bool false,.slice none 0 0] 49) = W3 := ⟨_,rfl⟩
  have bb : Below W2.heap.size W2 W3 := by subst hW3; go_grown
  have r8 : RowR W3 W2.heap.size (.bool false) (.slice none 0 0) := by subst hW3; exact RowR.new W2 _ _ _ rfl
  have l8 := r8.lt
  have hc : Hid (w.heap.size + 1 + 1 + 1 < W2.heap.size) := r5.lt
  have tr := RowR.touch r8 (.bool b2) p2 l2 k2
  have j0 := r8.cell0
  have j1 := r8.cell1
  have j2 := r8.free 0
  have j3 := r8.free 1
  obtain ⟨W4,hW4⟩ : ∃ W4,(W3.setCell ⟨W2.heap.size,0,none⟩ (.bool b2)).setCell ⟨W2.heap.size,1,none⟩ (.slice p2 l2 k2) = W4 := ⟨_,rfl⟩
  rw [hW4] at tr
  clear r8
  obtain ⟨t8,r8⟩ := tr
  have hb4 : Below W2.heap.size W2 W4 := bb.trans ⟨t8.1.1,t8.1.2.1,t8.1.2.2.1,Nat.le_of_eq t8.1.2.2.2.1.symm,fun k hk => t8.1.2.2.2.2 k (by omega)⟩
  replace ra := ra.below hb4 ra.lt
  replace rb := rb.below hb4 rb.lt
  replace r4 := r4.below hb4 r4.lt
  replace r5 := r5.below hb4 r5.lt
  replace nA := nA.below hb4
  replace nB := nB.below hb4
  have n8 := n2.below hb4
  replace b1 := below_acc b1 b1.size hb4
  clear t8 n2 bb hb4
  have a0 := ra.cell0
  have e0 := rb.cell0
  obtain ⟨c8,hc8⟩ : ∃ c8,W2.heap.size = c8 := ⟨_,rfl⟩
  rw [hc8] at hW4 j0 j1 j2 j3 r8 l8 hc
  obtain ⟨c4,hc4⟩ : ∃ c4,w.heap.size + 1 + 1 = c4 := ⟨_,rfl⟩
  obtain ⟨c5,hc5⟩ : ∃ c5,c4 + 1 = c5 := ⟨_,rfl⟩
  have d45 : c4 ≠ c5 := by omega
  have wc4 : w.heap.size ≤ c4 := by omega
  have wc5 : w.heap.size ≤ c5 := by omega
  have d48 : c8 ≠ c4 := by have := hc.out; omega
  have d58 : c8 ≠ c5 := by have := hc.out; omega
  have d08 : w.heap.size ≠ c8 := by have := hc.out; omega
  have d18 : w.heap.size + 1 ≠ c8 := by have := hc.out; omega
  have hLa : L ≤ 1048576 := by omega
  have hLb : L + L ≤ 1048576 := by omega
  have wc8 : w.heap.size ≤ c8 := by have := hc.out; omega
  rw [hc4] at r4 r5
  rw [hc5] at r5
  have hT' := hT
  rw [show (bA != bB) = (!(bA == bB)) from rfl] at hT
  obtain ⟨Sg,hSg⟩ : ∃ Sg,(!(bA == bB)) = Sg := ⟨_,rfl⟩
  rw [hSg] at hT
  obtain ⟨Lg,hLg⟩ : ∃ Lg,decide (0 < lt) = Lg := ⟨_,rfl⟩
  have hLm : Lg = true ↔ 0 < absI a % absI b := by rw [← hLg,← hlt]; simp
  clear hlt hT' hc
  cases Sg
  · obtain rfl : zq = zr := by simpa using hT.out
    go_wp2_with fail
    clear hSg hLg hLm hT hW3 hW4 j0 j1 j2 j3 a0 e0
    skip
    refine wpIn_wide (n := 5) |>.1 ?_
    refine region_rg [⟨some 37,[],[0],false,none,[],[],false,true,false⟩,⟨some 38,[],[1],false,none,[],[],false,true,false⟩,⟨some 39,[],[2],false,none,[],[],false,true,false⟩,⟨some 40,[],[3],false,none,[],[],false,true,false⟩,⟨some 41,[(2,some 39),(3,some 40)],[4],false,none,[],[],false,true,false⟩,⟨some 42,[(1,some 38),(4,some 41)],[5],false,none,[],[2,3],false,true,false⟩,⟨none,[(0,some 37)],[],false,none,[],[1,2,3,4,5],true,true,true⟩,⟨none,[(5,some 42),(6,none)],[],false,none,[6],[0,1,2,3,4],true,false,true⟩] [Spec.litc (.agg #[.bool b2,.slice p2 l2 k2]) (fun w => IsR w (.agg #[.bool b2,.slice p2 l2 k2]) (zq)) (fun _ _ h m => h.below m) (fun _ _ _ h t => h.touch t),Spec.lit (.agg #[.bool bA,.slice pA lA cA]),Spec.lit (.agg #[.bool b2,.slice p2 l2 k2]),Spec.lit (.agg #[.bool bB,.slice pB lB cB]),Spec.R (zq * b),Spec.R (a - zq * b),Spec.last (fun vs w => RowR w c4 (.bool b2) (.slice p2 l2 k2) ∧ IsR w (.agg #[.bool b2,.slice p2 l2 k2]) (zq) ∧ RowR w c5 (.bool false) (.slice none 0 0)) (fun _ _ _ ⟨h,t,g⟩ m => ⟨h.below m h.lt,t.below m,g.below m g.lt⟩),Spec.last (fun vs w => ∃ g p l k,(RowR w c4 (.bool b2) (.slice p2 l2 k2) ∧ IsR w (.agg #[.bool b2,.slice p2 l2 k2]) (zq)) ∧ RowR w c5 (.bool g) (.slice p l k) ∧ IsR w (.agg #[.bool g,.slice p l k]) (a - zq * b)) (fun _ _ _ ⟨_,_,_,_,h,g,t⟩ m => ⟨_,_,_,_,⟨h.1.below m h.1.lt,h.2.below m⟩,g.below m g.lt,t.below m⟩)] [] (fun k => k = c4 ∨ k = c5) [0,1,2,3,4,5,6,7] [0,1,2,3,4,5,7] (by kernel_rfl) rfl (by kernel_rfl) rfl (fun p h => h.elim (fun h => h ▸ r4.lt) (fun h => h ▸ r5.lt)) rfl (by kernel_rfl) [(0,some 37),(1,some 38),(2,some 39),(3,some 40),(4,some 41),(5,some 42),(6,none),(7,none)] rfl (AllRuns.cons (some 37) [] [0] rfl rfl rfl rfl none rfl _ _ rfl rfl ?_ (AllRuns.cons (some 38) [] [1] rfl rfl rfl rfl none rfl _ _ rfl rfl ?_ (AllRuns.cons (some 39) [] [2] rfl rfl rfl rfl none rfl _ _ rfl rfl ?_ (AllRuns.cons (some 40) [] [3] rfl rfl rfl rfl none rfl _ _ rfl rfl ?_ (AllRuns.cons (some 41) [(2,some 39),(3,some 40)] [4] rfl rfl rfl rfl none rfl _ _ rfl rfl ?_ (AllRuns.cons (some 42) [(1,some 38),(4,some 41)] [5] rfl rfl rfl rfl none rfl _ _ rfl rfl ?_ (AllRuns.cons none [(0,some 37)] [] rfl rfl rfl rfl none rfl _ _ rfl rfl ?_ (AllRuns.cons none [(5,some 42),(6,none)] [] rfl rfl rfl rfl none rfl _ _ rfl rfl ?_ (AllRuns.nil))))))))) ?_
    · rintro env W hB - K hK
      simp only [fill,Act.put,List.setIfInBounds_toArray,List.set_cons_zero,List.set_cons_succ] at hK ⊢
      have acc := Base.bx hB
      have rr := r8.below acc r8.lt
      have d0 := rr.cell0
      have d1 := rr.cell1
      go_simp; exact hid hK _ _ (Below.refl _ _) ⟨rfl,n8.below acc⟩ (novar rfl)
    · rintro env W hB - K hK
      simp only [fill,Act.put,List.setIfInBounds_toArray,List.set_cons_zero,List.set_cons_succ] at hK ⊢
      have acc := Base.bx hB
      have rr := ra.below acc ra.lt
      have d0 := rr.cell0
      have d1 := rr.cell1
      go_simp; exact hid hK _ _ (Below.refl _ _) rfl (novar rfl)
    · rintro env W hB - K hK
      simp only [fill,Act.put,List.setIfInBounds_toArray,List.set_cons_zero,List.set_cons_succ] at hK ⊢
      have acc := Base.bx hB
      have rr := r8.below acc r8.lt
      have d0 := rr.cell0
      have d1 := rr.cell1
      go_simp; exact hid hK _ _ (Below.refl _ _) rfl (novar rfl)
    · rintro env W hB - K hK
      simp only [fill,Act.put,List.setIfInBounds_toArray,List.set_cons_zero,List.set_cons_succ] at hK ⊢
      have acc := Base.bx hB
      have rr := rb.below acc rb.lt
      have d0 := rr.cell0
      have d1 := rr.cell1
      go_simp; exact hid hK _ _ (Below.refl _ _) rfl (novar rfl)
    · rintro env W hB ⟨h2,h3,-⟩ K hK
      have e2 : env 2 = .agg #[.bool b2,.slice p2 l2 k2] := h2
      have e3 : env 3 = .agg #[.bool bB,.slice pB lB cB] := h3
      simp only [fill,Act.put,List.setIfInBounds_toArray,List.set_cons_zero,List.set_cons_succ,e2,e3] at hK ⊢
      have acc := Base.bx hB
      go_simp
      gi_wp2_with (refine ⟨trivial,?_⟩; gi_at_call 28; refine (callsIn_wide.2 (mul_R L hLa (.agg #[.bool b2,.slice p2 l2 k2]) (.agg #[.bool bB,.slice pB lB cB]) (zq) b W (n8.below acc) (nB.below acc) hzL hbL)).mono ?_; rintro e W2 ⟨z0,rfl,i0,hb⟩)
      exact hid hK _ _ hb i0 (novar rfl)
    · rintro env W hB ⟨h1,h4,-⟩ K hK
      have e1 : env 1 = .agg #[.bool bA,.slice pA lA cA] := h1
      simp only [fill,Act.put,List.setIfInBounds_toArray,List.set_cons_zero,List.set_cons_succ,e1] at hK ⊢
      have acc := Base.bx hB
      go_simp
      gi_wp2_with (refine ⟨trivial,?_⟩; gi_at_call 56; refine (callsIn_wide.2 (sub_R (L + L) hLb (.agg #[.bool bA,.slice pA lA cA]) (env 4) a (zq * b) W (nA.below acc) h4 haL2 hmL)).mono ?_; rintro e W2 ⟨z0,rfl,i0,hb⟩)
      exact hid hK _ _ hb i0 (novar rfl)
    · rintro env W hB ⟨h0,-⟩ K hK
      obtain ⟨y0,n0⟩ := h0
      have e0 : env 0 = .agg #[.bool b2,.slice p2 l2 k2] := y0
      replace n0 : IsR W (.agg #[.bool b2,.slice p2 l2 k2]) (zq) := n0
      simp only [fill,Act.put,List.setIfInBounds_toArray,List.set_cons_zero,List.set_cons_succ,e0] at hK ⊢
      have acc := Base.bx hB
      have rr := r4.below acc r4.lt
      have r5 := r5.below acc r5.lt
      have j0 := rr.free 0
      have j1 := rr.free 1
      have d0 := rr.cell0
      have d1 := rr.cell1
      have tr := RowR.touch rr (.bool b2) p2 l2 k2
      go_simp
      exact hid hK undef _ ⟨c4,.inl rfl,tr.1⟩ ⟨tr.2,n0.touch tr.1,(r5.other (a := ⟨c4,0,none⟩) d45.symm _).other (a := ⟨c4,1,none⟩) d45.symm _⟩ (novar rfl)
    · rintro env W hB ⟨h5,h6,-⟩ K hK
      obtain ⟨b5,p5,l5,k5,e5,g5⟩ := IsR.cells h5
      replace e5 : env 5 = _ := e5
      simp only [fill,Act.put,List.setIfInBounds_toArray,List.set_cons_zero,List.set_cons_succ,e5] at hK ⊢
      obtain ⟨r4,n4,r5⟩ := h6
      have j0 := r5.free 0
      have j1 := r5.free 1
      have d0 := r5.cell0
      have d1 := r5.cell1
      have tr := RowR.touch r5 (.bool b5) p5 l5 k5
      go_simp
      exact hid hK undef _ ⟨c5,.inr rfl,tr.1⟩ ⟨_,_,_,_,⟨(r4.other (a := ⟨c5,0,none⟩) d45 _).other (a := ⟨c5,1,none⟩) d45 _,n4.touch tr.1⟩,tr.2,g5.touch tr.1⟩ (novar rfl)
    · rintro env W9 hB ⟨h0,h1,h2,h3,h4,h5,h7,-⟩ hv hap
      have e1 : env 1 = .agg #[.bool bA,.slice pA lA cA] := h1
      have e2 : env 2 = .agg #[.bool b2,.slice p2 l2 k2] := h2
      have e3 : env 3 = .agg #[.bool bB,.slice pB lB cB] := h3
      obtain ⟨b7,p7,l7,k7,⟨q4,n4⟩,q5,n5⟩ := h7
      simp only [fill,Act.put,List.setIfInBounds_toArray,List.set_cons_zero,List.set_cons_succ,e1,e2,e3]
      clear h1 e1 h2 e2 h3 e3
      clear h4
      generalize env 4 = x4
      have o9 : Only W4 W9 (fun k => k = c4 ∨ k = c5) := hB
      have bw : Below w.heap.size w W9 := b1.trans ⟨o9.1,o9.2.1,o9.2.2.1,o9.2.2.2.1,fun k hk => o9.2.2.2.2 k (Nat.lt_of_lt_of_le hk b1.size) (fun h => by rcases h with h | h <;> (have h : k = _ := h; omega))⟩
      go_wp2_with fail
      exact bodyPost_RR Tryz.results23 rfl rfl rfl q4 q5 n4 n5 bw
  · cases Lg
    · obtain rfl : zq = zr := by have := hT.out; rw [if_neg (fun h => by have := hLm.2 h.2; cases this)] at this; exact this
      clear hLm
      go_wp2_with fail
      clear hSg hLg hT hW3 hW4 j0 j1 j2 j3 a0 e0
      skip
      refine wpIn_wide (n := 5) |>.1 ?_
      refine region_rg [⟨some 37,[],[0],false,none,[],[],false,true,false⟩,⟨some 38,[],[1],false,none,[],[],false,true,false⟩,⟨some 39,[],[2],false,none,[],[],false,true,false⟩,⟨some 40,[],[3],false,none,[],[],false,true,false⟩,⟨some 41,[(2,some 39),(3,some 40)],[4],false,none,[],[],false,true,false⟩,⟨some 42,[(1,some 38),(4,some 41)],[5],false,none,[],[2,3],false,true,false⟩,⟨none,[(0,some 37)],[],false,none,[],[1,2,3,4,5],true,true,true⟩,⟨none,[(5,some 42),(6,none)],[],false,none,[6],[0,1,2,3,4],true,false,true⟩] [Spec.litc (.agg #[.bool b2,.slice p2 l2 k2]) (fun w => IsR w (.agg #[.bool b2,.slice p2 l2 k2]) (zq)) (fun _ _ h m => h.below m) (fun _ _ _ h t => h.touch t),Spec.lit (.agg #[.bool bA,.slice pA lA cA]),Spec.lit (.agg #[.bool b2,.slice p2 l2 k2]),Spec.lit (.agg #[.bool bB,.slice pB lB cB]),Spec.R (zq * b),Spec.R (a - zq * b),Spec.last (fun vs w => RowR w c4 (.bool b2) (.slice p2 l2 k2) ∧ IsR w (.agg #[.bool b2,.slice p2 l2 k2]) (zq) ∧ RowR w c5 (.bool false) (.slice none 0 0)) (fun _ _ _ ⟨h,t,g⟩ m => ⟨h.below m h.lt,t.below m,g.below m g.lt⟩),Spec.last (fun vs w => ∃ g p l k,(RowR w c4 (.bool b2) (.slice p2 l2 k2) ∧ IsR w (.agg #[.bool b2,.slice p2 l2 k2]) (zq)) ∧ RowR w c5 (.bool g) (.slice p l k) ∧ IsR w (.agg #[.bool g,.slice p l k]) (a - zq * b)) (fun _ _ _ ⟨_,_,_,_,h,g,t⟩ m => ⟨_,_,_,_,⟨h.1.below m h.1.lt,h.2.below m⟩,g.below m g.lt,t.below m⟩)] [] (fun k => k = c4 ∨ k = c5) [0,1,2,3,4,5,6,7] [0,1,2,3,4,5,7] (by kernel_rfl) rfl (by kernel_rfl) rfl (fun p h => h.elim (fun h => h ▸ r4.lt) (fun h => h ▸ r5.lt)) rfl (by kernel_rfl) [(0,some 37),(1,some 38),(2,some 39),(3,some 40),(4,some 41),(5,some 42),(6,none),(7,none)] rfl (AllRuns.cons (some 37) [] [0] rfl rfl rfl rfl none rfl _ _ rfl rfl ?_ (AllRuns.cons (some 38) [] [1] rfl rfl rfl rfl none rfl _ _ rfl rfl ?_ (AllRuns.cons (some 39) [] [2] rfl rfl rfl rfl none rfl _ _ rfl rfl ?_ (AllRuns.cons (some 40) [] [3] rfl rfl rfl rfl none rfl _ _ rfl rfl ?_ (AllRuns.cons (some 41) [(2,some 39),(3,some 40)] [4] rfl rfl rfl rfl none rfl _ _ rfl rfl ?_ (AllRuns.cons (some 42) [(1,some 38),(4,some 41)] [5] rfl rfl rfl rfl none rfl _ _ rfl rfl ?_ (AllRuns.cons none [(0,some 37)] [] rfl rfl rfl rfl none rfl _ _ rfl rfl ?_ (AllRuns.cons none [(5,some 42),(6,none)] [] rfl rfl rfl rfl none rfl _ _ rfl rfl ?_ (AllRuns.nil))))))))) ?_
      · rintro env W hB - K hK
        simp only [fill,Act.put,List.setIfInBounds_toArray,List.set_cons_zero,List.set_cons_succ] at hK ⊢
        have acc := Base.bx hB
        have rr := r8.below acc r8.lt
        have d0 := rr.cell0
        have d1 := rr.cell1
        go_simp; exact hid hK _ _ (Below.refl _ _) ⟨rfl,n8.below acc⟩ (novar rfl)
      · rintro env W hB - K hK
        simp only [fill,Act.put,List.setIfInBounds_toArray,List.set_cons_zero,List.set_cons_succ] at hK ⊢
        have acc := Base.bx hB
        have rr := ra.below acc ra.lt
        have d0 := rr.cell0
        have d1 := rr.cell1
        go_simp; exact hid hK _ _ (Below.refl _ _) rfl (novar rfl)
      · rintro env W hB - K hK
        simp only [fill,Act.put,List.setIfInBounds_toArray,List.set_cons_zero,List.set_cons_succ] at hK ⊢
        have acc := Base.bx hB
        have rr := r8.below acc r8.lt
        have d0 := rr.cell0
        have d1 := rr.cell1
        go_simp; exact hid hK _ _ (Below.refl _ _) rfl (novar rfl)
      · rintro env W hB - K hK
        simp only [fill,Act.put,List.setIfInBounds_toArray,List.set_cons_zero,List.set_cons_succ] at hK ⊢
        have acc := Base.bx hB
        have rr := rb.below acc rb.lt
        have d0 := rr.cell0
        have d1 := rr.cell1
        go_simp; exact hid hK _ _ (Below.refl _ _) rfl (novar rfl)
      · rintro env W hB ⟨h2,h3,-⟩ K hK
        have e2 : env 2 = .agg #[.bool b2,.slice p2 l2 k2] := h2
        have e3 : env 3 = .agg #[.bool bB,.slice pB lB cB] := h3
        simp only [fill,Act.put,List.setIfInBounds_toArray,List.set_cons_zero,List.set_cons_succ,e2,e3] at hK ⊢
        have acc := Base.bx hB
        go_simp
        gi_wp2_with (refine ⟨trivial,?_⟩; gi_at_call 28; refine (callsIn_wide.2 (mul_R L hLa (.agg #[.bool b2,.slice p2 l2 k2]) (.agg #[.bool bB,.slice pB lB cB]) (zq) b W (n8.below acc) (nB.below acc) hzL hbL)).mono ?_; rintro e W2 ⟨z0,rfl,i0,hb⟩)
        exact hid hK _ _ hb i0 (novar rfl)
      · rintro env W hB ⟨h1,h4,-⟩ K hK
        have e1 : env 1 = .agg #[.bool bA,.slice pA lA cA] := h1
        simp only [fill,Act.put,List.setIfInBounds_toArray,List.set_cons_zero,List.set_cons_succ,e1] at hK ⊢
        have acc := Base.bx hB
        go_simp
        gi_wp2_with (refine ⟨trivial,?_⟩; gi_at_call 56; refine (callsIn_wide.2 (sub_R (L + L) hLb (.agg #[.bool bA,.slice pA lA cA]) (env 4) a (zq * b) W (nA.below acc) h4 haL2 hmL)).mono ?_; rintro e W2 ⟨z0,rfl,i0,hb⟩)
        exact hid hK _ _ hb i0 (novar rfl)
      · rintro env W hB ⟨h0,-⟩ K hK
        obtain ⟨y0,n0⟩ := h0
        have e0 : env 0 = .agg #[.bool b2,.slice p2 l2 k2] := y0
        replace n0 : IsR W (.agg #[.bool b2,.slice p2 l2 k2]) (zq) := n0
        simp only [fill,Act.put,List.setIfInBounds_toArray,List.set_cons_zero,List.set_cons_succ,e0] at hK ⊢
        have acc := Base.bx hB
        have rr := r4.below acc r4.lt
        have r5 := r5.below acc r5.lt
        have j0 := rr.free 0
        have j1 := rr.free 1
        have d0 := rr.cell0
        have d1 := rr.cell1
        have tr := RowR.touch rr (.bool b2) p2 l2 k2
        go_simp
        exact hid hK undef _ ⟨c4,.inl rfl,tr.1⟩ ⟨tr.2,n0.touch tr.1,(r5.other (a := ⟨c4,0,none⟩) d45.symm _).other (a := ⟨c4,1,none⟩) d45.symm _⟩ (novar rfl)
      · rintro env W hB ⟨h5,h6,-⟩ K hK
        obtain ⟨b5,p5,l5,k5,e5,g5⟩ := IsR.cells h5
        replace e5 : env 5 = _ := e5
        simp only [fill,Act.put,List.setIfInBounds_toArray,List.set_cons_zero,List.set_cons_succ,e5] at hK ⊢
        obtain ⟨r4,n4,r5⟩ := h6
        have j0 := r5.free 0
        have j1 := r5.free 1
        have d0 := r5.cell0
        have d1 := r5.cell1
        have tr := RowR.touch r5 (.bool b5) p5 l5 k5
        go_simp
        exact hid hK undef _ ⟨c5,.inr rfl,tr.1⟩ ⟨_,_,_,_,⟨(r4.other (a := ⟨c5,0,none⟩) d45 _).other (a := ⟨c5,1,none⟩) d45 _,n4.touch tr.1⟩,tr.2,g5.touch tr.1⟩ (novar rfl)
      · rintro env W9 hB ⟨h0,h1,h2,h3,h4,h5,h7,-⟩ hv hap
        have e1 : env 1 = .agg #[.bool bA,.slice pA lA cA] := h1
        have e2 : env 2 = .agg #[.bool b2,.slice p2 l2 k2] := h2
        have e3 : env 3 = .agg #[.bool bB,.slice pB lB cB] := h3
        obtain ⟨b7,p7,l7,k7,⟨q4,n4⟩,q5,n5⟩ := h7
        simp only [fill,Act.put,List.setIfInBounds_toArray,List.set_cons_zero,List.set_cons_succ,e1,e2,e3]
        clear h1 e1 h2 e2 h3 e3
        clear h4
        generalize env 4 = x4
        have o9 : Only W4 W9 (fun k => k = c4 ∨ k = c5) := hB
        have bw : Below w.heap.size w W9 := b1.trans ⟨o9.1,o9.2.1,o9.2.2.1,o9.2.2.2.1,fun k hk => o9.2.2.2.2 k (Nat.lt_of_lt_of_le hk b1.size) (fun h => by rcases h with h | h <;> (have h : k = _ := h; omega))⟩
        go_wp2_with fail
        exact bodyPost_RR Tryz.results23 rfl rfl rfl q4 q5 n4 n5 bw
    · obtain rfl : zq - 1 = zr := by have := hT.out; rw [if_pos ⟨rfl,hLm.1 rfl⟩] at this; exact this
      clear hLm
      go_wp2_with fail
      clear hSg hLg hT hW3 hW4 j0 j1 j2 j3 a0 e0
      refine wpIn_wide (n := 5) |>.1 ?_
      refine region_rg [⟨some 34,[],[0],false,none,[],[],false,true,false⟩,⟨some 35,[],[1],false,none,[],[],false,false,false⟩,⟨some 36,[(0,some 34),(1,some 35)],[2],false,none,[],[],false,true,false⟩,⟨none,[(2,some 36)],[],false,none,[],[0],true,true,true⟩] [Spec.litc (.agg #[.bool b2,.slice p2 l2 k2]) (fun w => IsR w (.agg #[.bool bA,.slice pA lA cA]) a ∧ IsR w (.agg #[.bool bB,.slice pB lB cB]) b) (fun _ _ h m => ⟨h.1.below m,h.2.below m⟩) (fun _ _ _ h t => ⟨h.1.touch t,h.2.touch t⟩),Spec.R (1),Spec.R (zq - 1),Spec.last (fun vs w => ∃ g p l k,RowR w c8 (.bool g) (.slice p l k) ∧ IsR w (.agg #[.bool g,.slice p l k]) (zq - 1)) (fun _ _ _ ⟨_,_,_,_,h,t⟩ m => ⟨_,_,_,_,h.below m h.lt,t.below m⟩)] [] (fun k => k = c8) [0,1,2,3] [0,1,2,3] (by kernel_rfl) rfl (by kernel_rfl) rfl (fun p h => (show p = c8 from h) ▸ r8.lt) rfl (by kernel_rfl) [(0,some 34),(1,some 35),(2,some 36),(3,none)] rfl (AllRuns.cons (some 34) [] [0] rfl rfl rfl rfl none rfl _ _ rfl rfl ?_ (AllRuns.cons (some 35) [] [1] rfl rfl rfl rfl none rfl _ _ rfl rfl ?_ (AllRuns.cons (some 36) [(0,some 34),(1,some 35)] [2] rfl rfl rfl rfl none rfl _ _ rfl rfl ?_ (AllRuns.cons none [(2,some 36)] [] rfl rfl rfl rfl none rfl _ _ rfl rfl ?_ (AllRuns.nil))))) ?_
      · rintro env W hB - K hK
        simp only [fill,Act.put,List.setIfInBounds_toArray,List.set_cons_zero,List.set_cons_succ] at hK ⊢
        have acc := Base.bx hB
        have rr := r8.below acc r8.lt
        have d0 := rr.cell0
        have d1 := rr.cell1
        go_simp; exact hid hK _ _ (Below.refl _ _) ⟨rfl,nA.below acc,nB.below acc⟩ (novar rfl)
      · rintro env W hB - K hK
        simp only [fill,Act.put,List.setIfInBounds_toArray,List.set_cons_zero,List.set_cons_succ] at hK ⊢
        go_simp
        gi_wp2_with (refine ⟨trivial,?_⟩; gi_at_call 57; refine (callsIn_wide.2 (intOf_1 W)).mono ?_; rintro e W2 ⟨z0,rfl,i0,hb⟩)
        exact hid hK _ _ hb i0 (novar rfl)
      · rintro env W hB ⟨h0,h1,-⟩ K hK
        obtain ⟨y0,nA0,nB0⟩ := h0
        have e0 : env 0 = .agg #[.bool b2,.slice p2 l2 k2] := y0
        simp only [fill,Act.put,List.setIfInBounds_toArray,List.set_cons_zero,List.set_cons_succ,e0] at hK ⊢
        have acc := Base.bx hB
        go_simp
        gi_wp2_with (refine ⟨trivial,?_⟩; gi_at_call 56; refine (callsIn_wide.2 (sub_R L hLa (.agg #[.bool b2,.slice p2 l2 k2]) (env 1) zq 1 W (n8.below acc) h1 hzL h1L)).mono ?_; rintro e W2 ⟨z0,rfl,i0,hb⟩)
        exact hid hK _ _ hb i0 (novar rfl)
      · rintro env W hB ⟨h2,-⟩ K hK
        obtain ⟨b5,p5,l5,k5,e2,g2⟩ := IsR.cells h2
        replace e2 : env 2 = _ := e2
        simp only [fill,Act.put,List.setIfInBounds_toArray,List.set_cons_zero,List.set_cons_succ,e2] at hK ⊢
        have acc := Base.bx hB
        have rr := r8.below acc r8.lt
        have j0 := rr.free 0
        have j1 := rr.free 1
        have d0 := rr.cell0
        have d1 := rr.cell1
        have tr := RowR.touch rr (.bool b5) p5 l5 k5
        go_simp
        exact hid hK undef _ ⟨c8,rfl,tr.1⟩ ⟨_,_,_,_,tr.2,g2.touch tr.1⟩ (novar rfl)
      · rintro env W8 hB ⟨h0,h1,h2,h3,-⟩ hv hap
        obtain ⟨y0,nA0,nB0⟩ := h0
        have e0 : env 0 = .agg #[.bool b2,.slice p2 l2 k2] := y0
        obtain ⟨b3,p3,l3,k3,r9,n9⟩ := h3
        simp only [fill,Act.put,List.setIfInBounds_toArray,List.set_cons_zero,List.set_cons_succ,e0]
        clear h1
        generalize env 1 = x1
        have o8 : Only W4 W8 (fun k => k = c8) := hB
        replace nA : IsR W8 (.agg #[.bool bA,.slice pA lA cA]) a := nA0
        replace nB : IsR W8 (.agg #[.bool bB,.slice pB lB cB]) b := nB0
        replace ra : RowR W8 w.heap.size (.bool bA) (.slice pA lA cA) := (o8.2.2.2.2 _ ra.lt d08).trans ra
        replace rb : RowR W8 (w.heap.size + 1) (.bool bB) (.slice pB lB cB) := (o8.2.2.2.2 _ rb.lt d18).trans rb
        replace r4 : RowR W8 c4 (.bool false) (.slice none 0 0) := (o8.2.2.2.2 _ r4.lt (fun h => d48 h.symm)).trans r4
        replace r5 : RowR W8 c5 (.bool false) (.slice none 0 0) := (o8.2.2.2.2 _ r5.lt (fun h => d58 h.symm)).trans r5
        have bw : Below w.heap.size w W8 := b1.trans ⟨o8.1,o8.2.1,o8.2.2.1,o8.2.2.2.1,fun k hk => o8.2.2.2.2 k (Nat.lt_of_lt_of_le hk b1.size) (fun h => by have h : k = c8 := h; omega)⟩
        clear o8 hB hv hap r8 n8 b1 nA0 nB0 e0 y0
        replace r8 := r9
        have n8 : IsR W8 (.agg #[.bool b3,.slice p3 l3 k3]) (zq - 1) := n9
        have b1 := bw
        clear bw r9 n9
        go_wp2_with fail
        refine wpIn_wide (n := 5) |>.1 ?_
        refine region_rg [⟨some 37,[],[0],false,none,[],[],false,true,false⟩,⟨some 38,[],[1],false,none,[],[],false,true,false⟩,⟨some 39,[],[2],false,none,[],[],false,true,false⟩,⟨some 40,[],[3],false,none,[],[],false,true,false⟩,⟨some 41,[(2,some 39),(3,some 40)],[4],false,none,[],[],false,true,false⟩,⟨some 42,[(1,some 38),(4,some 41)],[5],false,none,[],[2,3],false,true,false⟩,⟨none,[(0,some 37)],[],false,none,[],[1,2,3,4,5],true,true,true⟩,⟨none,[(5,some 42),(6,none)],[],false,none,[6],[0,1,2,3,4],true,false,true⟩] [Spec.litc (.agg #[.bool b3,.slice p3 l3 k3]) (fun w => IsR w (.agg #[.bool b3,.slice p3 l3 k3]) ((zq - 1))) (fun _ _ h m => h.below m) (fun _ _ _ h t => h.touch t),Spec.lit (.agg #[.bool bA,.slice pA lA cA]),Spec.lit (.agg #[.bool b3,.slice p3 l3 k3]),Spec.lit (.agg #[.bool bB,.slice pB lB cB]),Spec.R ((zq - 1) * b),Spec.R (a - (zq - 1) * b),Spec.last (fun vs w => RowR w c4 (.bool b3) (.slice p3 l3 k3) ∧ IsR w (.agg #[.bool b3,.slice p3 l3 k3]) ((zq - 1)) ∧ RowR w c5 (.bool false) (.slice none 0 0)) (fun _ _ _ ⟨h,t,g⟩ m => ⟨h.below m h.lt,t.below m,g.below m g.lt⟩),Spec.last (fun vs w => ∃ g p l k,(RowR w c4 (.bool b3) (.slice p3 l3 k3) ∧ IsR w (.agg #[.bool b3,.slice p3 l3 k3]) ((zq - 1))) ∧ RowR w c5 (.bool g) (.slice p l k) ∧ IsR w (.agg #[.bool g,.slice p l k]) (a - (zq - 1) * b)) (fun _ _ _ ⟨_,_,_,_,h,g,t⟩ m => ⟨_,_,_,_,⟨h.1.below m h.1.lt,h.2.below m⟩,g.below m g.lt,t.below m⟩)] [] (fun k => k = c4 ∨ k = c5) [0,1,2,3,4,5,6,7] [0,1,2,3,4,5,7] (by kernel_rfl) rfl (by kernel_rfl) rfl (fun p h => h.elim (fun h => h ▸ r4.lt) (fun h => h ▸ r5.lt)) rfl (by kernel_rfl) [(0,some 37),(1,some 38),(2,some 39),(3,some 40),(4,some 41),(5,some 42),(6,none),(7,none)] rfl (AllRuns.cons (some 37) [] [0] rfl rfl rfl rfl none rfl _ _ rfl rfl ?_ (AllRuns.cons (some 38) [] [1] rfl rfl rfl rfl none rfl _ _ rfl rfl ?_ (AllRuns.cons (some 39) [] [2] rfl rfl rfl rfl none rfl _ _ rfl rfl ?_ (AllRuns.cons (some 40) [] [3] rfl rfl rfl rfl none rfl _ _ rfl rfl ?_ (AllRuns.cons (some 41) [(2,some 39),(3,some 40)] [4] rfl rfl rfl rfl none rfl _ _ rfl rfl ?_ (AllRuns.cons (some 42) [(1,some 38),(4,some 41)] [5] rfl rfl rfl rfl none rfl _ _ rfl rfl ?_ (AllRuns.cons none [(0,some 37)] [] rfl rfl rfl rfl none rfl _ _ rfl rfl ?_ (AllRuns.cons none [(5,some 42),(6,none)] [] rfl rfl rfl rfl none rfl _ _ rfl rfl ?_ (AllRuns.nil))))))))) ?_
        · rintro env W hB - K hK
          simp only [fill,Act.put,List.setIfInBounds_toArray,List.set_cons_zero,List.set_cons_succ] at hK ⊢
          have acc := Base.bx hB
          have rr := r8.below acc r8.lt
          have d0 := rr.cell0
          have d1 := rr.cell1
          go_simp; exact hid hK _ _ (Below.refl _ _) ⟨rfl,n8.below acc⟩ (novar rfl)
        · rintro env W hB - K hK
          simp only [fill,Act.put,List.setIfInBounds_toArray,List.set_cons_zero,List.set_cons_succ] at hK ⊢
          have acc := Base.bx hB
          have rr := ra.below acc ra.lt
          have d0 := rr.cell0
          have d1 := rr.cell1
          go_simp; exact hid hK _ _ (Below.refl _ _) rfl (novar rfl)
        · rintro env W hB - K hK
          simp only [fill,Act.put,List.setIfInBounds_toArray,List.set_cons_zero,List.set_cons_succ] at hK ⊢
          have acc := Base.bx hB
          have rr := r8.below acc r8.lt
          have d0 := rr.cell0
          have d1 := rr.cell1
          go_simp; exact hid hK _ _ (Below.refl _ _) rfl (novar rfl)
        · rintro env W hB - K hK
          simp only [fill,Act.put,List.setIfInBounds_toArray,List.set_cons_zero,List.set_cons_succ] at hK ⊢
          have acc := Base.bx hB
          have rr := rb.below acc rb.lt
          have d0 := rr.cell0
          have d1 := rr.cell1
          go_simp; exact hid hK _ _ (Below.refl _ _) rfl (novar rfl)
        · rintro env W hB ⟨h2,h3,-⟩ K hK
          have e2 : env 2 = .agg #[.bool b3,.slice p3 l3 k3] := h2
          have e3 : env 3 = .agg #[.bool bB,.slice pB lB cB] := h3
          simp only [fill,Act.put,List.setIfInBounds_toArray,List.set_cons_zero,List.set_cons_succ,e2,e3] at hK ⊢
          have acc := Base.bx hB
          go_simp
          gi_wp2_with (refine ⟨trivial,?_⟩; gi_at_call 28; refine (callsIn_wide.2 (mul_R L hLa (.agg #[.bool b3,.slice p3 l3 k3]) (.agg #[.bool bB,.slice pB lB cB]) ((zq - 1)) b W (n8.below acc) (nB.below acc) hyL hbL)).mono ?_; rintro e W2 ⟨z0,rfl,i0,hb⟩)
          exact hid hK _ _ hb i0 (novar rfl)
        · rintro env W hB ⟨h1,h4,-⟩ K hK
          have e1 : env 1 = .agg #[.bool bA,.slice pA lA cA] := h1
          simp only [fill,Act.put,List.setIfInBounds_toArray,List.set_cons_zero,List.set_cons_succ,e1] at hK ⊢
          have acc := Base.bx hB
          go_simp
          gi_wp2_with (refine ⟨trivial,?_⟩; gi_at_call 56; refine (callsIn_wide.2 (sub_R (L + L) hLb (.agg #[.bool bA,.slice pA lA cA]) (env 4) a ((zq - 1) * b) W (nA.below acc) h4 haL2 hnL)).mono ?_; rintro e W2 ⟨z0,rfl,i0,hb⟩)
          exact hid hK _ _ hb i0 (novar rfl)
        · rintro env W hB ⟨h0,-⟩ K hK
          obtain ⟨y0,n0⟩ := h0
          have e0 : env 0 = .agg #[.bool b3,.slice p3 l3 k3] := y0
          replace n0 : IsR W (.agg #[.bool b3,.slice p3 l3 k3]) ((zq - 1)) := n0
          simp only [fill,Act.put,List.setIfInBounds_toArray,List.set_cons_zero,List.set_cons_succ,e0] at hK ⊢
          have acc := Base.bx hB
          have rr := r4.below acc r4.lt
          have r5 := r5.below acc r5.lt
          have j0 := rr.free 0
          have j1 := rr.free 1
          have d0 := rr.cell0
          have d1 := rr.cell1
          have tr := RowR.touch rr (.bool b3) p3 l3 k3
          go_simp
          exact hid hK undef _ ⟨c4,.inl rfl,tr.1⟩ ⟨tr.2,n0.touch tr.1,(r5.other (a := ⟨c4,0,none⟩) d45.symm _).other (a := ⟨c4,1,none⟩) d45.symm _⟩ (novar rfl)
        · rintro env W hB ⟨h5,h6,-⟩ K hK
          obtain ⟨b5,p5,l5,k5,e5,g5⟩ := IsR.cells h5
          replace e5 : env 5 = _ := e5
          simp only [fill,Act.put,List.setIfInBounds_toArray,List.set_cons_zero,List.set_cons_succ,e5] at hK ⊢
          obtain ⟨r4,n4,r5⟩ := h6
          have j0 := r5.free 0
          have j1 := r5.free 1
          have d0 := r5.cell0
          have d1 := r5.cell1
          have tr := RowR.touch r5 (.bool b5) p5 l5 k5
          go_simp
          exact hid hK undef _ ⟨c5,.inr rfl,tr.1⟩ ⟨_,_,_,_,⟨(r4.other (a := ⟨c5,0,none⟩) d45 _).other (a := ⟨c5,1,none⟩) d45 _,n4.touch tr.1⟩,tr.2,g5.touch tr.1⟩ (novar rfl)
        · rintro env W9 hB ⟨h0,h1,h2,h3,h4,h5,h7,-⟩ hv hap
          have e1 : env 1 = .agg #[.bool bA,.slice pA lA cA] := h1
          have e2 : env 2 = .agg #[.bool b3,.slice p3 l3 k3] := h2
          have e3 : env 3 = .agg #[.bool bB,.slice pB lB cB] := h3
          obtain ⟨b7,p7,l7,k7,⟨q4,n4⟩,q5,n5⟩ := h7
          simp only [fill,Act.put,List.setIfInBounds_toArray,List.set_cons_zero,List.set_cons_succ,e1,e2,e3]
          clear h1 e1 h2 e2 h3 e3
          clear h4
          generalize env 4 = x4
          have o9 : Only W8 W9 (fun k => k = c4 ∨ k = c5) := hB
          have bw : Below w.heap.size w W9 := b1.trans ⟨o9.1,o9.2.1,o9.2.2.1,o9.2.2.2.1,fun k hk => o9.2.2.2.2 k (Nat.lt_of_lt_of_le hk b1.size) (fun h => by rcases h with h | h <;> (have h : k = _ := h; omega))⟩
          go_wp2_with fail
          exact bodyPost_RR Tryz.results23 rfl rfl rfl q4 q5 n4 n5 bw
end Go.Proofs.YtogildikglomkaaGreatDoor
