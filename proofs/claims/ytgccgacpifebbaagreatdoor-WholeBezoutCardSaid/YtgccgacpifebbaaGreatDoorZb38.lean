/- WhoX -/
import Derived.Test.YtgccgacpifebbaaGreatDoorZb25
import Derived.Test.YtgccgacpifebbaaGreatDoorZb37
namespace Go.Proofs.YtgccgacpifebbaaGreatDoor
open Go.RowKit
set_option linter.unusedVariables false
def Bx (a b : World) : Prop := Below a.heap.size a b
theorem EBox.touch0 {w : World} {e : Nat} {u : Value} {p : Option Addr} {l c : Nat} (h : EBox w e u (.slice p l c)) (q : Option Addr) (m k : Nat) : Touch e w (w.setCell ⟨e,0,none⟩ (.slice q m k)) :=
  ⟨⟨rfl,rfl,rfl,by simp [World.setCell],fun k hk => heap_setCell_other w _ k _ hk⟩,_,_,_,h,h.set0 _,rfl,⟨1,_,_,_,rfl⟩,⟨1,_,_,_,rfl⟩⟩
theorem EBox.touch1 {w : World} {e : Nat} {v : Value} {p : Option Addr} {l c : Nat} (h : EBox w e (.slice p l c) v) (q : Option Addr) (m k : Nat) : Touch e w (w.setCell ⟨e,1,none⟩ (.slice q m k)) :=
  ⟨⟨rfl,rfl,rfl,by simp [World.setCell],fun k hk => heap_setCell_other w _ k _ hk⟩,_,_,_,h,h.set1 _,rfl,⟨0,_,_,_,rfl⟩,⟨0,_,_,_,rfl⟩⟩
/-- Euclid's row lies in block e,to which the first value points. -/
def Spec.ebox (e : Nat) (u v : Value) : Spec := ⟨fun vs w => vs.headD undef = Ptr e ∧ EBox w e u v,true,false,fun _ _ _ ⟨h1,h2⟩ b => ⟨h1,h2.below b h2.lt⟩,fun _ vs w w' k ⟨h1,h2⟩ t hne => ⟨h1,(t.1.2.2.2.2 e (by
  rintro rfl
  cases vs with
  | nil => simp only [List.headD] at h1; cases h1
  | cons x xs => exact hne rfl x (by simp) h1)).trans h2⟩⟩
def Spec.eboxv (e : Nat) (u : Value) : Spec := ⟨fun vs w => ∃ y,vs.headD undef = Ptr e ∧ vs.getD 1 undef = y ∧ EBox w e u y,true,false,fun _ _ _ ⟨y,h1,h3,h2⟩ b => ⟨y,h1,h3,h2.below b h2.lt⟩,fun _ vs w w' k ⟨y,h1,h3,h2⟩ t hne => ⟨y,h1,h3,(t.1.2.2.2.2 e (by
  rintro rfl
  cases vs with
  | nil => simp only [List.headD] at h1; cases h1
  | cons x xs => exact hne rfl x (by simp) h1)).trans h2⟩⟩
def TwoI (w : World) (v : Value) (a b : Int) : Prop := ∃ t0 y0 q0 m0 d0 t1 y1 q1 m1 d1,v = .agg #[.bool t0,.int .u64 y0,.slice q0 m0 d0,.bool t1,.int .u64 y1,.slice q1 m1 d1] ∧ IsInt w (.agg #[.bool t0,.int .u64 y0,.slice q0 m0 d0]) a ∧ IsInt w (.agg #[.bool t1,.int .u64 y1,.slice q1 m1 d1]) b
def Spec.twoI (a b : Int) : Spec := ⟨fun vs w => TwoI w (vs.headD undef) a b,false,false,fun _ _ _ ⟨_,_,_,_,_,_,_,_,_,_,e,h,g⟩ b => ⟨_,_,_,_,_,_,_,_,_,_,e,h.below b,g.below b⟩,fun _ _ _ _ _ ⟨_,_,_,_,_,_,_,_,_,_,e,h,g⟩ t _ => ⟨_,_,_,_,_,_,_,_,_,_,e,h.touch t,g.touch t⟩⟩
theorem IsTurn.below {w w' : World} {v : Value} {a b c d : Int} (h : IsTurn w v a b c d) (k : Below w.heap.size w w') : IsTurn w' v a b c d := by
  obtain ⟨_,_,_,_,_,_,_,_,_,_,_,_,_,_,_,_,_,_,_,_,e,h1,h2,h3,h4⟩ := h
  exact ⟨_,_,_,_,_,_,_,_,_,_,_,_,_,_,_,_,_,_,_,_,e,h1.below k,h2.below k,h3.below k,h4.below k⟩
theorem IsTurn.touch {w w' : World} {p : Nat} {v : Value} {a b c d : Int} (h : IsTurn w v a b c d) (k : Touch p w w') : IsTurn w' v a b c d := by
  obtain ⟨_,_,_,_,_,_,_,_,_,_,_,_,_,_,_,_,_,_,_,_,e,h1,h2,h3,h4⟩ := h
  exact ⟨_,_,_,_,_,_,_,_,_,_,_,_,_,_,_,_,_,_,_,_,e,h1.touch k,h2.touch k,h3.touch k,h4.touch k⟩
def Spec.turn (a b c d : Int) : Spec := ⟨fun vs w => IsTurn w (vs.headD undef) a b c d,false,false,fun _ _ _ h b => h.below b,fun _ _ _ _ _ h t _ => h.touch t⟩
theorem Row12.touch {w : World} {b : Nat} {v0 v1 v3 v4 v5 v6 v7 v8 v9 v10 v11 : Value} {p : Option Addr} {l c : Nat} (h : Row12 w b v0 v1 (.slice p l c) v3 v4 v5 v6 v7 v8 v9 v10 v11) (x0 x1 x3 x4 x5 x6 x7 x8 x9 x10 x11 : Value) (q : Option Addr) (m k : Nat) {w' : World}
    (hw : w' = (((((((((((((w.setCell ⟨b,0,none⟩ x0).setCell ⟨b,1,none⟩ x1).setCell ⟨b,2,none⟩ (.slice q m k)).setCell ⟨b,3,none⟩ x3).setCell ⟨b,4,none⟩ x4).setCell ⟨b,5,none⟩ x5).setCell ⟨b,6,none⟩ x6).setCell ⟨b,7,none⟩ x7).setCell ⟨b,8,none⟩ x8).setCell ⟨b,9,none⟩ x9).setCell ⟨b,10,none⟩ x10).setCell ⟨b,11,none⟩ x11))) :
    Touch b w w' ∧ Row12 w' b x0 x1 (.slice q m k) x3 x4 x5 x6 x7 x8 x9 x10 x11 := by
  have r := (((h.set0 x0 x1 (.slice q m k)).set3 x3 x4 x5).set6 x6 x7 x8).set9 x9 x10 x11
  have k := ((((((((((((Chg.refl b w).set 0 x0).set 1 x1).set 2 (.slice q m k)).set 3 x3).set 4 x4).set 5 x5).set 6 x6).set 7 x7).set 8 x8).set 9 x9).set 10 x10).set 11 x11
  rw [← hw] at r k
  exact ⟨⟨k,_,_,_,h,r,rfl,⟨2,_,_,_,rfl⟩,⟨2,_,_,_,rfl⟩⟩,r⟩
set_option maxRecDepth 100000 in
set_option maxHeartbeats 8000000 in
theorem step_div (C : Value → World → Prop) (hC : ∀ v w w',C v w → Below w.heap.size w w' → C v w') (tC : ∀ v w w' k,C v w → Touch k w w' → C v w') (e : Nat) (pa pb : Option Addr) (la ca lb cb : Nat) (X Y s0 s1 s2 s3 na nb q r : Int) (w : World)
    (he : EBox w e (.slice pa la ca) (.slice pb lb cb))
    (hto : ∀ W,Below w.heap.size w W → Calls Tryz.prog 65 #[.pointer (some ⟨e,0,none⟩)] W fun ev W' => ev = .returned (.tuple #[.int .i64 X,.int .i64 Y]) ∧ Below W.heap.size W W')
    (hsu : ∀ W,Calls Tryz.prog 64 #[.int .i64 X,.int .i64 Y] W fun ev W' => ev = .returned (.tuple #[.agg #[.int .i64 s0,.int .i64 s1,.int .i64 s2,.int .i64 s3],.bool false]) ∧ Below W.heap.size W W')
    (hna : ∀ W,Below w.heap.size w W → Calls Tryz.prog 35 #[.slice pa la ca] W (RetNat na W))
    (hnb : ∀ W,Below w.heap.size w W → Calls Tryz.prog 35 #[.slice pb lb cb] W (RetNat nb W))
    (hdv : ∀ v u W,IsNat W v na → IsNat W u nb → Calls Tryz.prog 50 #[v,u] W (RetDiv q r W))
    (hwo : ∀ v W,Below w.heap.size w W → IsNat W v r → Calls Tryz.prog 32 #[v] W fun ev W' => ∃ p l c,ev = .returned (.slice p l c) ∧ C (.slice p l c) W' ∧ Below W.heap.size W W') :
    Calls Tryz.prog 34 #[.pointer (some ⟨e,0,none⟩)] w fun rr w' => ∃ v p l c,rr = .returned v ∧ IsTurn w' v 0 1 1 (-q) ∧ EBox w' e (.slice pb lb cb) (.slice p l c) ∧ C (.slice p l c) w' ∧ Only w w' (fun k => k = e) := by
  obtain ⟨O0,hO⟩ : ∃ O0,w.alloc (.cells #[.bool false,.int .u64 0,.slice none 0 0,.bool false,.int .u64 0,.slice none 0 0,.bool false,.int .u64 0,.slice none 0 0,.bool false,.int .u64 0,.slice none 0 0] 73) = O0 := ⟨_,rfl⟩
  have b0 : Below w.heap.size w O0 := by subst hO; go_grown
  have hT : Row12 O0 w.heap.size (.bool false) (.int .u64 0) (.slice none 0 0) (.bool false) (.int .u64 0) (.slice none 0 0) (.bool false) (.int .u64 0) (.slice none 0 0) (.bool false) (.int .u64 0) (.slice none 0 0) := by subst hO; exact heap_new w _ _ rfl
  have he0 := he.lt
  replace he := he.below b0 he.lt
  go_enter Tryz.func34,Tryz.ntmps34
  go_wp2_with fail
  obtain ⟨s,hs⟩ : ∃ s,w.heap.size = s := ⟨_,rfl⟩
  rw [hs] at hT ⊢
  refine (hto O0 b0).mono ?_
  rintro rr W1 ⟨rfl,b1⟩
  replace he := he.below b1 he.lt
  replace hT := hT.below b1 hT.lt
  replace b1 := below_acc b0 b0.size b1
  clear b0 hO
  go_wp2_with fail
  refine (hsu W1).mono ?_
  rintro rr W2 ⟨rfl,b2⟩
  replace he := he.below b2 he.lt
  replace hT := hT.below b2 hT.lt
  replace b2 := below_acc b1 b1.size b2
  clear b1
  obtain ⟨W3,hW3⟩ : ∃ W3,W2.alloc (.cells #[.int .i64 s0,.int .i64 s1,.int .i64 s2,.int .i64 s3] 110) = W3 := ⟨_,rfl⟩
  have b3 : Below W2.heap.size W2 W3 := by subst hW3; go_grown
  replace he := he.below b3 he.lt
  replace hT := hT.below b3 hT.lt
  have b4 := below_acc b2 b2.size b3
  clear b2 b3
  go_wp2_with fail
  clear hW3
  generalize W2.heap.size = lq
  have zE := he.lt
  refine wpIn_wide (n := 5) |>.1 ?_
  refine region_rg [⟨some 40,[],[0],false,none,[],[],false,false,false⟩,⟨some 41,[(0,some 40)],[1],false,none,[],[],false,false,false⟩,⟨some 42,[(1,some 41)],[2],false,none,[],[],false,false,false⟩,⟨some 43,[(2,some 42)],[3],false,none,[],[],false,false,false⟩,⟨some 44,[(3,some 43)],[4],false,none,[],[],false,false,false⟩,⟨some 45,[],[5],false,none,[],[],false,false,false⟩,⟨some 46,[(5,some 45)],[6],false,none,[],[],false,false,false⟩,⟨some 47,[(6,some 46)],[7],false,none,[],[],false,false,false⟩,⟨some 48,[(7,some 47)],[8],false,none,[],[],false,false,false⟩,⟨some 49,[(8,some 48)],[9],false,none,[],[],false,false,false⟩,⟨some 50,[(4,some 44),(9,some 49)],[10],false,none,[],[],false,false,false⟩,⟨some 39,[(10,some 50)],[11],false,none,[],[],false,false,false⟩,⟨some 51,[(11,some 39)],[12],false,none,[],[],false,false,false⟩,⟨some 52,[(11,some 39)],[13],false,none,[],[],false,false,false⟩,⟨some 53,[(11,some 39)],[14],false,none,[],[],false,false,false⟩,⟨some 5,[],[15],true,none,[],[],false,false,false⟩,⟨some 6,[],[16],true,none,[],[],false,false,false⟩,⟨none,[(15,some 5),(12,some 51)],[15],true,some 15,[15],[],false,false,false⟩,⟨none,[(16,some 6),(13,some 52)],[16],true,some 16,[16],[],false,false,false⟩,⟨some 7,[(14,some 53)],[19],false,none,[],[],false,false,false⟩] [Spec.lit (.pointer (some ⟨e,0,none⟩)),Spec.lit (.pointer (some ⟨e,0,none⟩)),Spec.lit (.pointer (some ⟨e,0,none⟩)),Spec.lit (.slice pa la ca),Spec.nat na,Spec.lit (.pointer (some ⟨e,0,none⟩)),Spec.lit (.pointer (some ⟨e,0,none⟩)),Spec.lit (.pointer (some ⟨e,1,none⟩)),Spec.lit (.slice pb lb cb),Spec.nat nb,Spec.natnat q r (.bool true),Spec.natnat q r (.bool true),Spec.nat q,Spec.nat r,Spec.lit (.bool true),Spec.nat0 W3.heap.size,Spec.nat0 W3.heap.size,Spec.natv W3.heap.size q,Spec.natv W3.heap.size r,Spec.lit (.bool true)] [15,16] (fun _ => False) [0,1,2,3,4,5,6,7,8,9,10,11,12,13,14,15,16,17,18,19] [0,1,2,3,4,5,6,7,8,9,10,11,12,13,14,17,18,19] (by kernel_rfl) rfl (by kernel_rfl) rfl (fun _ h => (h : False).elim) rfl (by kernel_rfl) [(0,some 40),(1,some 41),(2,some 42),(3,some 43),(4,some 44),(5,some 45),(6,some 46),(7,some 47),(8,some 48),(9,some 49),(10,some 50),(11,some 39),(12,some 51),(13,some 52),(14,some 53),(15,some 5),(16,some 6),(17,none),(18,none),(19,some 7)] rfl (AllRuns.cons (some 40) [] [0] rfl rfl rfl rfl none rfl _ _ rfl rfl ?_ (AllRuns.cons (some 41) [(0,some 40)] [1] rfl rfl rfl rfl none rfl _ _ rfl rfl ?_ (AllRuns.cons (some 42) [(1,some 41)] [2] rfl rfl rfl rfl none rfl _ _ rfl rfl ?_ (AllRuns.cons (some 43) [(2,some 42)] [3] rfl rfl rfl rfl none rfl _ _ rfl rfl ?_ (AllRuns.cons (some 44) [(3,some 43)] [4] rfl rfl rfl rfl none rfl _ _ rfl rfl ?_ (AllRuns.cons (some 45) [] [5] rfl rfl rfl rfl none rfl _ _ rfl rfl ?_ (AllRuns.cons (some 46) [(5,some 45)] [6] rfl rfl rfl rfl none rfl _ _ rfl rfl ?_ (AllRuns.cons (some 47) [(6,some 46)] [7] rfl rfl rfl rfl none rfl _ _ rfl rfl ?_ (AllRuns.cons (some 48) [(7,some 47)] [8] rfl rfl rfl rfl none rfl _ _ rfl rfl ?_ (AllRuns.cons (some 49) [(8,some 48)] [9] rfl rfl rfl rfl none rfl _ _ rfl rfl ?_ (AllRuns.cons (some 50) [(4,some 44),(9,some 49)] [10] rfl rfl rfl rfl none rfl _ _ rfl rfl ?_ (AllRuns.cons (some 39) [(10,some 50)] [11] rfl rfl rfl rfl none rfl _ _ rfl rfl ?_ (AllRuns.cons (some 51) [(11,some 39)] [12] rfl rfl rfl rfl none rfl _ _ rfl rfl ?_ (AllRuns.cons (some 52) [(11,some 39)] [13] rfl rfl rfl rfl none rfl _ _ rfl rfl ?_ (AllRuns.cons (some 53) [(11,some 39)] [14] rfl rfl rfl rfl none rfl _ _ rfl rfl ?_ (AllRuns.cons (some 5) [] [15] rfl rfl rfl rfl none rfl _ _ rfl rfl ?_ (AllRuns.cons (some 6) [] [16] rfl rfl rfl rfl none rfl _ _ rfl rfl ?_ (AllRuns.cons none [(15,some 5),(12,some 51)] [15] rfl rfl rfl rfl (some 15) rfl _ _ rfl rfl ?_ (AllRuns.cons none [(16,some 6),(13,some 52)] [16] rfl rfl rfl rfl (some 16) rfl _ _ rfl rfl ?_ (AllRuns.cons (some 7) [(14,some 53)] [19] rfl rfl rfl rfl none rfl _ _ rfl rfl ?_ (AllRuns.nil))))))))))))))))))))) ?_
  · rintro env W hB - K hK
    simp only [fill,Act.put,List.setIfInBounds_toArray,List.set_cons_zero,List.set_cons_succ] at hK ⊢
    go_simp; exact hid hK _ _ (Below.refl _ _) rfl (novar rfl)
  · rintro env W hB ⟨h0,-⟩ K hK
    have e0 : env 0 = .pointer (some ⟨e,0,none⟩) := h0
    simp only [fill,Act.put,List.setIfInBounds_toArray,List.set_cons_zero,List.set_cons_succ,e0] at hK ⊢
    go_simp; exact hid hK _ _ (Below.refl _ _) rfl (novar rfl)
  · rintro env W hB ⟨h1,-⟩ K hK
    have e1 : env 1 = .pointer (some ⟨e,0,none⟩) := h1
    simp only [fill,Act.put,List.setIfInBounds_toArray,List.set_cons_zero,List.set_cons_succ,e1] at hK ⊢
    go_simp; exact hid hK _ _ (Below.refl _ _) rfl (novar rfl)
  · rintro env W hB ⟨h2,-⟩ K hK
    have e2 : env 2 = .pointer (some ⟨e,0,none⟩) := h2
    simp only [fill,Act.put,List.setIfInBounds_toArray,List.set_cons_zero,List.set_cons_succ,e2] at hK ⊢
    have acc : Bx W3 W := Base.bx hB
    have c0 := (he.below acc zE).cell0
    have c1 := (he.below acc zE).cell1
    go_simp; exact hid hK _ _ (Below.refl _ _) rfl (novar rfl)
  · rintro env W hB ⟨h3,-⟩ K hK
    have e3 : env 3 = .slice pa la ca := h3
    simp only [fill,Act.put,List.setIfInBounds_toArray,List.set_cons_zero,List.set_cons_succ,e3] at hK ⊢
    have acc : Bx W3 W := Base.bx hB
    have bw := below_acc b4 b4.size acc
    go_simp
    gi_wp2_with (refine ⟨trivial,?_⟩; gi_at_call 35; refine (callsIn_wide.2 (hna W bw)).mono ?_; rintro e W2 ⟨v4,rfl,i4,hb⟩)
    exact hid hK _ _ hb i4 (novar rfl)
  · rintro env W hB - K hK
    simp only [fill,Act.put,List.setIfInBounds_toArray,List.set_cons_zero,List.set_cons_succ] at hK ⊢
    go_simp; exact hid hK _ _ (Below.refl _ _) rfl (novar rfl)
  · rintro env W hB ⟨h5,-⟩ K hK
    have e5 : env 5 = .pointer (some ⟨e,0,none⟩) := h5
    simp only [fill,Act.put,List.setIfInBounds_toArray,List.set_cons_zero,List.set_cons_succ,e5] at hK ⊢
    go_simp; exact hid hK _ _ (Below.refl _ _) rfl (novar rfl)
  · rintro env W hB ⟨h6,-⟩ K hK
    have e6 : env 6 = .pointer (some ⟨e,0,none⟩) := h6
    simp only [fill,Act.put,List.setIfInBounds_toArray,List.set_cons_zero,List.set_cons_succ,e6] at hK ⊢
    go_simp; exact hid hK _ _ (Below.refl _ _) rfl (novar rfl)
  · rintro env W hB ⟨h7,-⟩ K hK
    have e7 : env 7 = .pointer (some ⟨e,1,none⟩) := h7
    simp only [fill,Act.put,List.setIfInBounds_toArray,List.set_cons_zero,List.set_cons_succ,e7] at hK ⊢
    have acc : Bx W3 W := Base.bx hB
    have c0 := (he.below acc zE).cell0
    have c1 := (he.below acc zE).cell1
    go_simp; exact hid hK _ _ (Below.refl _ _) rfl (novar rfl)
  · rintro env W hB ⟨h8,-⟩ K hK
    have e8 : env 8 = .slice pb lb cb := h8
    simp only [fill,Act.put,List.setIfInBounds_toArray,List.set_cons_zero,List.set_cons_succ,e8] at hK ⊢
    have acc : Bx W3 W := Base.bx hB
    have bw := below_acc b4 b4.size acc
    go_simp
    gi_wp2_with (refine ⟨trivial,?_⟩; gi_at_call 35; refine (callsIn_wide.2 (hnb W bw)).mono ?_; rintro e W2 ⟨v4,rfl,i4,hb⟩)
    exact hid hK _ _ hb i4 (novar rfl)
  · rintro env W hB ⟨h4,h9,-⟩ K hK
    simp only [fill,Act.put,List.setIfInBounds_toArray,List.set_cons_zero,List.set_cons_succ] at hK ⊢
    go_simp
    gi_wp2_with (refine ⟨trivial,?_⟩; gi_at_call 50; refine (callsIn_wide.2 (hdv (env 4) (env 9) W h4 h9)).mono ?_; rintro e W2 ⟨v1,v2,rfl,i1,i2,hb⟩)
    exact hid hK _ _ hb ⟨v1,v2,rfl,i1,i2⟩ (novar rfl)
  · rintro env W hB ⟨h10,-⟩ K hK
    simp only [fill,Act.put,List.setIfInBounds_toArray,List.set_cons_zero,List.set_cons_succ] at hK ⊢
    go_simp; exact hid hK _ _ (Below.refl _ _) h10 (novar rfl)
  · rintro env W hB ⟨h11,-⟩ K hK
    obtain ⟨x,y,ez,ix,iy⟩ := h11
    have e11 : env 11 = .tuple #[x,y,.bool true] := ez
    simp only [fill,Act.put,List.setIfInBounds_toArray,List.set_cons_zero,List.set_cons_succ,e11] at hK ⊢
    go_simp; exact hid hK _ _ (Below.refl _ _) ix (novar rfl)
  · rintro env W hB ⟨h11,-⟩ K hK
    obtain ⟨x,y,ez,ix,iy⟩ := h11
    have e11 : env 11 = .tuple #[x,y,.bool true] := ez
    simp only [fill,Act.put,List.setIfInBounds_toArray,List.set_cons_zero,List.set_cons_succ,e11] at hK ⊢
    go_simp; exact hid hK _ _ (Below.refl _ _) iy (novar rfl)
  · rintro env W hB ⟨h11,-⟩ K hK
    obtain ⟨x,y,ez,ix,iy⟩ := h11
    have e11 : env 11 = .tuple #[x,y,.bool true] := ez
    simp only [fill,Act.put,List.setIfInBounds_toArray,List.set_cons_zero,List.set_cons_succ,e11] at hK ⊢
    go_simp; exact hid hK _ _ (Below.refl _ _) rfl (novar rfl)
  · rintro env W hB - K hK
    simp only [fill,Act.put,List.setIfInBounds_toArray,List.set_cons_zero,List.set_cons_succ] at hK ⊢
    go_simp; exact hid hK _ _ (Below.refl _ _ |>.alloc (Nat.le_refl _) _) ⟨_,[.int .u64 0,.slice none 0 0],rfl,hB.2.2.2.1,heap_alloc_new _ _,rfl⟩ (fun _ => ⟨rfl,by simp⟩)
  · rintro env W hB - K hK
    simp only [fill,Act.put,List.setIfInBounds_toArray,List.set_cons_zero,List.set_cons_succ] at hK ⊢
    go_simp; exact hid hK _ _ (Below.refl _ _ |>.alloc (Nat.le_refl _) _) ⟨_,[.int .u64 0,.slice none 0 0],rfl,hB.2.2.2.1,heap_alloc_new _ _,rfl⟩ (fun _ => ⟨rfl,by simp⟩)
  · rintro env W hB ⟨h15,h12,-⟩ K hK
    obtain ⟨p15,l15,z15,hp15,hc15,hl15⟩ := h15
    have e15 : env 15 = .pointer (some ⟨p15,0,none⟩) := z15
    subst hl15
    have vp : Var W p15 (.int .u64 0) (.slice none 0 0) := ⟨hc15,_,_,_,rfl⟩
    have d0 := vp.c0
    have d1 := vp.c1
    have d2 := vp.free 0
    have d3 := vp.free 1
    simp only [fill,Act.put,List.setIfInBounds_toArray,List.set_cons_zero,List.set_cons_succ,e15] at hK ⊢
    replace h12 : IsNat W (env 12) q := h12
    obtain ⟨x,u,m,c,e12⟩ := h12.shape
    simp only [e12] at h12 hK ⊢
    go_simp
    exact hid hK undef _ ⟨p15,z15,hp15,(Touch.nat hc15).1⟩ ⟨p15,_,z15,hp15,(Touch.nat hc15).2,x,u,m,c,rfl,h12.touch (Touch.nat hc15).1⟩ (novar rfl)
  · rintro env W hB ⟨h16,h13,-⟩ K hK
    obtain ⟨p16,l16,z16,hp16,hc16,hl16⟩ := h16
    have e16 : env 16 = .pointer (some ⟨p16,0,none⟩) := z16
    subst hl16
    have vp : Var W p16 (.int .u64 0) (.slice none 0 0) := ⟨hc16,_,_,_,rfl⟩
    have d0 := vp.c0
    have d1 := vp.c1
    have d2 := vp.free 0
    have d3 := vp.free 1
    simp only [fill,Act.put,List.setIfInBounds_toArray,List.set_cons_zero,List.set_cons_succ,e16] at hK ⊢
    replace h13 : IsNat W (env 13) r := h13
    obtain ⟨x,u,m,c,e13⟩ := h13.shape
    simp only [e13] at h13 hK ⊢
    go_simp
    exact hid hK undef _ ⟨p16,z16,hp16,(Touch.nat hc16).1⟩ ⟨p16,_,z16,hp16,(Touch.nat hc16).2,x,u,m,c,rfl,h13.touch (Touch.nat hc16).1⟩ (novar rfl)
  · rintro env W hB ⟨h14,-⟩ K hK
    have e14 : env 14 = .bool true := h14
    simp only [fill,Act.put,List.setIfInBounds_toArray,List.set_cons_zero,List.set_cons_succ,e14] at hK ⊢
    go_simp; exact hid hK _ _ (Below.refl _ _) rfl (novar rfl)
  · rintro env W5 hB ⟨h0,h1,h2,h3,h4,h5,h6,h7,h8,h9,h10,h11,h12,h13,h14,h17,h18,h19,-⟩ hv hap
    have e0 : env 0 = .pointer (some ⟨e,0,none⟩) := h0
    have e1 : env 1 = .pointer (some ⟨e,0,none⟩) := h1
    have e2 : env 2 = .pointer (some ⟨e,0,none⟩) := h2
    have e3 : env 3 = .slice pa la ca := h3
    have e5 : env 5 = .pointer (some ⟨e,0,none⟩) := h5
    have e6 : env 6 = .pointer (some ⟨e,0,none⟩) := h6
    have e7 : env 7 = .pointer (some ⟨e,1,none⟩) := h7
    have e8 : env 8 = .slice pb lb cb := h8
    obtain ⟨x,y,ez,ix,iy⟩ := h11
    have e11 : env 11 = .tuple #[x,y,.bool true] := ez
    have e14 : env 14 = .bool true := h14
    obtain ⟨p15,l15,z15,hp15,hc15,x15,u15,m15,k15,hl15,hn15⟩ := h17
    have e15 : env 15 = .pointer (some ⟨p15,0,none⟩) := z15
    subst hl15
    obtain ⟨p16,l16,z16,hp16,hc16,x16,u16,m16,k16,hl16,hn16⟩ := h18
    have e16 : env 16 = .pointer (some ⟨p16,0,none⟩) := z16
    subst hl16
    have e19 : env 19 = .bool true := h19
    simp only [fill,Act.put,List.setIfInBounds_toArray,List.set_cons_zero,List.set_cons_succ,e0,e1,e2,e3,e5,e6,e7,e8,e11,e14,e15,e16,e19]
    clear h0 e0 h1 e1 h2 e2 h3 e3 h5 e5 h6 e6 h7 e7 h8 e8 h14 e14 h19 e19
    clear h4
    generalize env 4 = x4
    clear h9
    generalize env 9 = x9
    clear h10
    generalize env 10 = x10
    clear h12
    generalize env 12 = x12
    clear h13
    generalize env 13 = x13
    have acc : Bx W3 W5 := Base.bx hB
    have he5 := he.below acc zE
    have hT5 := hT.below acc hT.lt
    have b5 := below_acc b4 b4.size acc
    have v15 : Var W5 p15 (.int .u64 x15) (.slice u15 m15 k15) := ⟨hc15,_,_,_,rfl⟩
    have v16 : Var W5 p16 (.int .u64 x16) (.slice u16 m16 k16) := ⟨hc16,_,_,_,rfl⟩
    have n15 : IsNat W5 (.agg #[.int .u64 x15,.slice u15 m15 k15]) q := hn15
    have n16 : IsNat W5 (.agg #[.int .u64 x16,.slice u16 m16 k16]) r := hn16
    have z5 := he5.lt
    have s15 : s ≠ p15 := by have := hT.lt; omega
    have s16 : e ≠ p15 := by omega
    clear he hT acc b4 hB hv hap
    go_wp2_with fail
    refine wpIn_wide (n := 5) |>.1 ?_
    refine region_rg [⟨some 54,[],[0],false,none,[],[],false,false,false⟩,⟨some 55,[],[1],false,none,[],[],false,false,false⟩,⟨some 56,[],[2],false,none,[],[],false,false,false⟩,⟨some 57,[(2,some 56)],[3],false,none,[],[],false,false,false⟩,⟨some 58,[(3,some 57)],[4],false,none,[],[],false,false,false⟩,⟨some 59,[(4,some 58)],[5],false,none,[],[],false,true,false⟩,⟨some 60,[],[6],false,none,[],[],false,true,false⟩,⟨some 61,[(6,some 60)],[7],false,none,[],[],false,true,false⟩,⟨some 62,[(0,some 54)],[8],false,none,[],[],false,false,false⟩,⟨some 63,[(8,some 62)],[9],false,none,[],[],false,false,false⟩,⟨none,[(8,some 62),(9,some 63),(5,some 59)],[8],true,none,[],[6,7],true,true,false⟩,⟨some 64,[(1,some 55)],[11],false,none,[],[],false,false,false⟩,⟨some 65,[(11,some 64)],[12],false,none,[],[],false,false,false⟩,⟨none,[(11,some 64),(12,some 65),(7,some 61),(10,none)],[11,7],true,none,[10],[5,6],true,false,false⟩] [Spec.lit (.pointer (some ⟨e,0,none⟩)),Spec.lit (.pointer (some ⟨e,0,none⟩)),Spec.lit (.pointer (some ⟨e,0,none⟩)),Spec.lit (.pointer (some ⟨e,0,none⟩)),Spec.lit (.pointer (some ⟨e,1,none⟩)),Spec.litnat (.slice pb lb cb) (.agg #[.int .u64 x15,.slice u15 m15 k15]) q,Spec.lit (.agg #[.int .u64 x16,.slice u16 m16 k16]),Spec.slice C hC tC,Spec.lit (.pointer (some ⟨e,0,none⟩)),Spec.lit (.pointer (some ⟨e,0,none⟩)),Spec.ebox e (.slice pb lb cb) (.slice pb lb cb),Spec.lit (.pointer (some ⟨e,0,none⟩)),Spec.lit (.pointer (some ⟨e,1,none⟩)),Spec.eboxv e (.slice pb lb cb)] [] (fun k => k = e) [0,1,2,3,4,5,6,7,8,9,10,11,12,13] [0,1,2,3,4,5,6,7,8,9,11,12,13] (by kernel_rfl) rfl (by kernel_rfl) rfl (fun p h => (show p = e from h) ▸ z5) rfl (by kernel_rfl) [(0,some 54),(1,some 55),(2,some 56),(3,some 57),(4,some 58),(5,some 59),(6,some 60),(7,some 61),(8,some 62),(9,some 63),(10,none),(11,some 64),(12,some 65),(13,none)] rfl (AllRuns.cons (some 54) [] [0] rfl rfl rfl rfl none rfl _ _ rfl rfl ?_ (AllRuns.cons (some 55) [] [1] rfl rfl rfl rfl none rfl _ _ rfl rfl ?_ (AllRuns.cons (some 56) [] [2] rfl rfl rfl rfl none rfl _ _ rfl rfl ?_ (AllRuns.cons (some 57) [(2,some 56)] [3] rfl rfl rfl rfl none rfl _ _ rfl rfl ?_ (AllRuns.cons (some 58) [(3,some 57)] [4] rfl rfl rfl rfl none rfl _ _ rfl rfl ?_ (AllRuns.cons (some 59) [(4,some 58)] [5] rfl rfl rfl rfl none rfl _ _ rfl rfl ?_ (AllRuns.cons (some 60) [] [6] rfl rfl rfl rfl none rfl _ _ rfl rfl ?_ (AllRuns.cons (some 61) [(6,some 60)] [7] rfl rfl rfl rfl none rfl _ _ rfl rfl ?_ (AllRuns.cons (some 62) [(0,some 54)] [8] rfl rfl rfl rfl none rfl _ _ rfl rfl ?_ (AllRuns.cons (some 63) [(8,some 62)] [9] rfl rfl rfl rfl none rfl _ _ rfl rfl ?_ (AllRuns.cons none [(8,some 62),(9,some 63),(5,some 59)] [8] rfl rfl rfl rfl none rfl _ _ rfl rfl ?_ (AllRuns.cons (some 64) [(1,some 55)] [11] rfl rfl rfl rfl none rfl _ _ rfl rfl ?_ (AllRuns.cons (some 65) [(11,some 64)] [12] rfl rfl rfl rfl none rfl _ _ rfl rfl ?_ (AllRuns.cons none [(11,some 64),(12,some 65),(7,some 61),(10,none)] [11,7] rfl rfl rfl rfl none rfl _ _ rfl rfl ?_ (AllRuns.nil))))))))))))))) ?_
    · rintro env W hB - K hK
      simp only [fill,Act.put,List.setIfInBounds_toArray,List.set_cons_zero,List.set_cons_succ] at hK ⊢
      go_simp; exact hid hK _ _ (Below.refl _ _) rfl (novar rfl)
    · rintro env W hB - K hK
      simp only [fill,Act.put,List.setIfInBounds_toArray,List.set_cons_zero,List.set_cons_succ] at hK ⊢
      go_simp; exact hid hK _ _ (Below.refl _ _) rfl (novar rfl)
    · rintro env W hB - K hK
      simp only [fill,Act.put,List.setIfInBounds_toArray,List.set_cons_zero,List.set_cons_succ] at hK ⊢
      go_simp; exact hid hK _ _ (Below.refl _ _) rfl (novar rfl)
    · rintro env W hB ⟨h2,-⟩ K hK
      have e2 : env 2 = .pointer (some ⟨e,0,none⟩) := h2
      simp only [fill,Act.put,List.setIfInBounds_toArray,List.set_cons_zero,List.set_cons_succ,e2] at hK ⊢
      go_simp; exact hid hK _ _ (Below.refl _ _) rfl (novar rfl)
    · rintro env W hB ⟨h3,-⟩ K hK
      have e3 : env 3 = .pointer (some ⟨e,0,none⟩) := h3
      simp only [fill,Act.put,List.setIfInBounds_toArray,List.set_cons_zero,List.set_cons_succ,e3] at hK ⊢
      go_simp; exact hid hK _ _ (Below.refl _ _) rfl (novar rfl)
    · rintro env W hB ⟨h4,-⟩ K hK
      have e4 : env 4 = .pointer (some ⟨e,1,none⟩) := h4
      simp only [fill,Act.put,List.setIfInBounds_toArray,List.set_cons_zero,List.set_cons_succ,e4] at hK ⊢
      have acc : Bx W5 W := Base.bx hB
      have c0 := (he5.below acc z5).cell0
      have c1 := (he5.below acc z5).cell1
      go_simp; exact hid hK _ _ (Below.refl _ _) ⟨rfl,n15.below acc⟩ (novar rfl)
    · rintro env W hB - K hK
      simp only [fill,Act.put,List.setIfInBounds_toArray,List.set_cons_zero,List.set_cons_succ] at hK ⊢
      have acc : Bx W5 W := Base.bx hB
      have vp := v16.below acc v16.lt
      have d0 := vp.c0
      have d1 := vp.c1
      go_simp; exact hid hK _ _ (Below.refl _ _) rfl (novar rfl)
    · rintro env W hB ⟨h6,-⟩ K hK
      have e6 : env 6 = .agg #[.int .u64 x16,.slice u16 m16 k16] := h6
      simp only [fill,Act.put,List.setIfInBounds_toArray,List.set_cons_zero,List.set_cons_succ,e6] at hK ⊢
      have acc : Bx W5 W := Base.bx hB
      go_simp
      gi_wp2_with (refine ⟨trivial,?_⟩; gi_at_call 32; refine (callsIn_wide.2 (hwo _ W (below_acc b5 b5.size acc) (n16.below acc))).mono ?_; rintro e W2 ⟨p7,l7,c7,rfl,i7,hb⟩)
      exact hid hK _ _ hb ⟨p7,l7,c7,rfl,i7⟩ (novar rfl)
    · rintro env W hB ⟨h0,-⟩ K hK
      have e0 : env 0 = .pointer (some ⟨e,0,none⟩) := h0
      simp only [fill,Act.put,List.setIfInBounds_toArray,List.set_cons_zero,List.set_cons_succ,e0] at hK ⊢
      go_simp; exact hid hK _ _ (Below.refl _ _) rfl (novar rfl)
    · rintro env W hB ⟨h8,-⟩ K hK
      have e8 : env 8 = .pointer (some ⟨e,0,none⟩) := h8
      simp only [fill,Act.put,List.setIfInBounds_toArray,List.set_cons_zero,List.set_cons_succ,e8] at hK ⊢
      go_simp; exact hid hK _ _ (Below.refl _ _) rfl (novar rfl)
    · rintro env W hB ⟨h8,h9,h5,-⟩ K hK
      have e8 : env 8 = .pointer (some ⟨e,0,none⟩) := h8
      have e9 : env 9 = .pointer (some ⟨e,0,none⟩) := h9
      obtain ⟨y5,nq5⟩ := h5
      have e5 : env 5 = .slice pb lb cb := y5
      replace nq5 : IsNat W (.agg #[.int .u64 x15,.slice u15 m15 k15]) q := nq5
      simp only [fill,Act.put,List.setIfInBounds_toArray,List.set_cons_zero,List.set_cons_succ,e8,e9,e5] at hK ⊢
      have acc : Bx W5 W := Base.bx hB
      have r := he5.below acc z5
      have c0 := r.cell0
      have j0 := r.free 0
      go_simp
      exact hid hK undef _ ⟨e,rfl,r.touch0 _ _ _⟩ ⟨e8,r.set0 _⟩ (novar rfl)
    · rintro env W hB ⟨h1,-⟩ K hK
      have e1 : env 1 = .pointer (some ⟨e,0,none⟩) := h1
      simp only [fill,Act.put,List.setIfInBounds_toArray,List.set_cons_zero,List.set_cons_succ,e1] at hK ⊢
      go_simp; exact hid hK _ _ (Below.refl _ _) rfl (novar rfl)
    · rintro env W hB ⟨h11,-⟩ K hK
      have e11 : env 11 = .pointer (some ⟨e,0,none⟩) := h11
      simp only [fill,Act.put,List.setIfInBounds_toArray,List.set_cons_zero,List.set_cons_succ,e11] at hK ⊢
      go_simp; exact hid hK _ _ (Below.refl _ _) rfl (novar rfl)
    · rintro env W hB ⟨h11,h12,h7,h10,-⟩ K hK
      have e11 : env 11 = .pointer (some ⟨e,0,none⟩) := h11
      have e12 : env 12 = .pointer (some ⟨e,1,none⟩) := h12
      obtain ⟨p7,l7,c7,z7,i7⟩ := h7
      have e7 : env 7 = .slice p7 l7 c7 := z7
      obtain ⟨-,r10⟩ := h10
      simp only [fill,Act.put,List.setIfInBounds_toArray,List.set_cons_zero,List.set_cons_succ,e11,e12,e7] at hK ⊢
      have c1 := r10.cell1
      have j1 := r10.free 1
      go_simp
      exact hid hK undef _ ⟨e,rfl,r10.touch1 _ _ _⟩ ⟨_,e11,e7,r10.set1 _⟩ (novar rfl)
    · rintro env W6 hB ⟨h0,h1,h2,h3,h4,h5,h6,h7,h8,h9,h11,h12,h13,-⟩ hv hap
      have e0 : env 0 = .pointer (some ⟨e,0,none⟩) := h0
      have e1 : env 1 = .pointer (some ⟨e,0,none⟩) := h1
      have e2 : env 2 = .pointer (some ⟨e,0,none⟩) := h2
      have e3 : env 3 = .pointer (some ⟨e,0,none⟩) := h3
      have e4 : env 4 = .pointer (some ⟨e,1,none⟩) := h4
      obtain ⟨y5,nq5⟩ := h5
      have e5 : env 5 = .slice pb lb cb := y5
      replace nq5 : IsNat W6 (.agg #[.int .u64 x15,.slice u15 m15 k15]) q := nq5
      have e6 : env 6 = .agg #[.int .u64 x16,.slice u16 m16 k16] := h6
      obtain ⟨p7,l7,c7,z7,i7⟩ := h7
      have e7 : env 7 = .slice p7 l7 c7 := z7
      have e8 : env 8 = .pointer (some ⟨e,0,none⟩) := h8
      have e9 : env 9 = .pointer (some ⟨e,0,none⟩) := h9
      have e11 : env 11 = .pointer (some ⟨e,0,none⟩) := h11
      have e12 : env 12 = .pointer (some ⟨e,1,none⟩) := h12
      obtain ⟨y13,-,z13,r13⟩ := h13
      replace z13 : env 7 = y13 := z13
      simp only [fill,Act.put,List.setIfInBounds_toArray,List.set_cons_zero,List.set_cons_succ,e0,e1,e2,e3,e4,e5,e6,e7,e8,e9,e11,e12]
      clear h0 e0 h1 e1 h2 e2 h3 e3 h4 e4 h6 e6 h8 e8 h9 e9 h11 e11 h12 e12
      have o6 : Only W5 W6 (fun k => k = e) := hB
      have hT6 := hT5.only o6 (fun h => (by omega : s ≠ e) h)
      replace v15 : Var W6 p15 (.int .u64 x15) (.slice u15 m15 k15) := ⟨(o6.2.2.2.2 p15 v15.lt (fun h => s16 h.symm)).trans v15.1,v15.2⟩
      have b6 := ((Only.refl w (fun k => k = e)).below b5).trans' o6 (fun _ h => h)
      clear o6 hB hv hap he5 hT5 v16 n16 b5
      go_wp2_with fail
      refine wpIn_wide (n := 5) |>.1 ?_
      refine region_rg [⟨some 66,[],[0],false,none,[],[],false,false,false⟩,⟨some 67,[],[1],false,none,[],[],false,false,false⟩,⟨some 68,[(0,some 66),(1,some 67)],[2],false,none,[],[],false,false,false⟩,⟨some 69,[],[3],false,none,[],[],false,false,false⟩,⟨some 70,[],[4],false,none,[],[],false,true,false⟩,⟨some 71,[(4,some 70)],[5],false,none,[],[],false,true,false⟩,⟨some 72,[(3,some 69),(5,some 71)],[6],false,none,[],[],false,false,false⟩,⟨some 73,[(2,some 68),(6,some 72)],[7],false,none,[],[],false,false,false⟩,⟨none,[(7,some 73)],[],false,none,[],[4,5],true,true,true⟩] [Spec.int (0),Spec.int (1),Spec.twoI 0 1,Spec.int (1),Spec.litc (.agg #[.int .u64 x15,.slice u15 m15 k15]) (fun w => C (.slice p7 l7 c7) w) (fun _ _ => hC _ _ _) (fun _ _ _ => tC _ _ _ _),Spec.int (-q),Spec.twoI 1 (-q),Spec.turn 0 1 1 (-q),Spec.last (fun vs w => ∃ t0 t1 u0 u1 y0 y1 z0 z1 q0 q1 r0 r1 m0 m1 n0 n1 d0 d1 f0 f1,Row12 w s (.bool t0) (.int .u64 y0) (.slice q0 m0 d0) (.bool t1) (.int .u64 y1) (.slice q1 m1 d1) (.bool u0) (.int .u64 z0) (.slice r0 n0 f0) (.bool u1) (.int .u64 z1) (.slice r1 n1 f1) ∧ IsTurn w (.agg #[.bool t0,.int .u64 y0,.slice q0 m0 d0,.bool t1,.int .u64 y1,.slice q1 m1 d1,.bool u0,.int .u64 z0,.slice r0 n0 f0,.bool u1,.int .u64 z1,.slice r1 n1 f1]) 0 1 1 (-q)) (fun _ _ _ ⟨_,_,_,_,_,_,_,_,_,_,_,_,_,_,_,_,_,_,_,_,h,t⟩ b => ⟨_,_,_,_,_,_,_,_,_,_,_,_,_,_,_,_,_,_,_,_,h.below b h.lt,t.below b⟩)] [] (fun k => k = s) [0,1,2,3,4,5,6,7,8] [0,1,2,3,4,5,6,7,8] (by kernel_rfl) rfl (by kernel_rfl) rfl (fun p h => (show p = s from h) ▸ hT6.lt) rfl (by kernel_rfl) [(0,some 66),(1,some 67),(2,some 68),(3,some 69),(4,some 70),(5,some 71),(6,some 72),(7,some 73),(8,none)] rfl (AllRuns.cons (some 66) [] [0] rfl rfl rfl rfl none rfl _ _ rfl rfl ?_ (AllRuns.cons (some 67) [] [1] rfl rfl rfl rfl none rfl _ _ rfl rfl ?_ (AllRuns.cons (some 68) [(0,some 66),(1,some 67)] [2] rfl rfl rfl rfl none rfl _ _ rfl rfl ?_ (AllRuns.cons (some 69) [] [3] rfl rfl rfl rfl none rfl _ _ rfl rfl ?_ (AllRuns.cons (some 70) [] [4] rfl rfl rfl rfl none rfl _ _ rfl rfl ?_ (AllRuns.cons (some 71) [(4,some 70)] [5] rfl rfl rfl rfl none rfl _ _ rfl rfl ?_ (AllRuns.cons (some 72) [(3,some 69),(5,some 71)] [6] rfl rfl rfl rfl none rfl _ _ rfl rfl ?_ (AllRuns.cons (some 73) [(2,some 68),(6,some 72)] [7] rfl rfl rfl rfl none rfl _ _ rfl rfl ?_ (AllRuns.cons none [(7,some 73)] [] rfl rfl rfl rfl none rfl _ _ rfl rfl ?_ (AllRuns.nil)))))))))) ?_
      · rintro env W hB - K hK
        simp only [fill,Act.put,List.setIfInBounds_toArray,List.set_cons_zero,List.set_cons_succ] at hK ⊢
        go_simp
        gi_wp2_with (refine ⟨trivial,?_⟩; gi_at_call 31; refine (callsIn_wide.2 (of_int 0 (by decide) W)).mono ?_; rintro e W2 ⟨z0,rfl,i0,hb⟩)
        exact hid hK _ _ hb i0 (novar rfl)
      · rintro env W hB - K hK
        simp only [fill,Act.put,List.setIfInBounds_toArray,List.set_cons_zero,List.set_cons_succ] at hK ⊢
        go_simp
        gi_wp2_with (refine ⟨trivial,?_⟩; gi_at_call 31; refine (callsIn_wide.2 (of_int 1 (by decide) W)).mono ?_; rintro e W2 ⟨z0,rfl,i0,hb⟩)
        exact hid hK _ _ hb i0 (novar rfl)
      · rintro env W hB ⟨h0,h1,-⟩ K hK
        obtain ⟨b0,x0,p0,l0,c0,e0,g0⟩ := IsInt.cells h0
        replace e0 : env 0 = _ := e0
        obtain ⟨b1,x1,p1,l1,c1,e1,g1⟩ := IsInt.cells h1
        replace e1 : env 1 = _ := e1
        simp only [fill,Act.put,List.setIfInBounds_toArray,List.set_cons_zero,List.set_cons_succ,e0,e1] at hK ⊢
        go_simp; exact hid hK _ _ (Below.refl _ _) ⟨_,_,_,_,_,_,_,_,_,_,rfl,g0,g1⟩ (novar rfl)
      · rintro env W hB - K hK
        simp only [fill,Act.put,List.setIfInBounds_toArray,List.set_cons_zero,List.set_cons_succ] at hK ⊢
        go_simp
        gi_wp2_with (refine ⟨trivial,?_⟩; gi_at_call 31; refine (callsIn_wide.2 (of_int 1 (by decide) W)).mono ?_; rintro e W2 ⟨z0,rfl,i0,hb⟩)
        exact hid hK _ _ hb i0 (novar rfl)
      · rintro env W hB - K hK
        simp only [fill,Act.put,List.setIfInBounds_toArray,List.set_cons_zero,List.set_cons_succ] at hK ⊢
        have acc : Bx W6 W := Base.bx hB
        have vp := v15.below acc v15.lt
        have d0 := vp.c0
        have d1 := vp.c1
        go_simp; exact hid hK _ _ (Below.refl _ _) ⟨rfl,hC _ _ _ i7 acc⟩ (novar rfl)
      · rintro env W hB ⟨h4,-⟩ K hK
        obtain ⟨y4,k4⟩ := h4
        have e4 : env 4 = .agg #[.int .u64 x15,.slice u15 m15 k15] := y4
        replace k4 : C (.slice p7 l7 c7) W := k4
        simp only [fill,Act.put,List.setIfInBounds_toArray,List.set_cons_zero,List.set_cons_succ,e4] at hK ⊢
        have acc : Bx W6 W := Base.bx hB
        go_simp
        gi_wp2_with (refine ⟨trivial,?_⟩; gi_at_call 23; refine (callsIn_wide.2 (from_int true _ q W (nq5.below acc))).mono ?_; rintro e W2 ⟨z0,rfl,i0,hb⟩)
        exact hid hK _ _ hb (show IsInt W2 z0 (-q) from i0) (novar rfl)
      · rintro env W hB ⟨h3,h5,-⟩ K hK
        obtain ⟨b3,x3,p3,l3,c3,e3,g3⟩ := IsInt.cells h3
        replace e3 : env 3 = _ := e3
        obtain ⟨b5,x5,p5,l5,c5,e5,g5⟩ := IsInt.cells h5
        replace e5 : env 5 = _ := e5
        simp only [fill,Act.put,List.setIfInBounds_toArray,List.set_cons_zero,List.set_cons_succ,e3,e5] at hK ⊢
        go_simp; exact hid hK _ _ (Below.refl _ _) ⟨_,_,_,_,_,_,_,_,_,_,rfl,g3,g5⟩ (novar rfl)
      · rintro env W hB ⟨h2,h6,-⟩ K hK
        obtain ⟨t2,y2,q2,m2,d2,u2,z2,r2,n2,f2,e2,g2,j2⟩ := h2
        replace e2 : env 2 = _ := e2
        obtain ⟨t6,y6,q6,m6,d6,u6,z6,r6,n6,f6,e6,g6,j6⟩ := h6
        replace e6 : env 6 = _ := e6
        simp only [fill,Act.put,List.setIfInBounds_toArray,List.set_cons_zero,List.set_cons_succ,e2,e6] at hK ⊢
        go_simp; exact hid hK _ _ (Below.refl _ _) ⟨_,_,_,_,_,_,_,_,_,_,_,_,_,_,_,_,_,_,_,_,rfl,g2,j2,g6,j6⟩ (novar rfl)
      · rintro env W hB ⟨h7,-⟩ K hK
        obtain ⟨t0,t1,u0,u1,y0,y1,z0,z1,q0,q1,r0,r1,m0,m1,n0,n1,d0,d1,f0,f1,e7,ht7⟩ := h7
        replace e7 : env 7 = _ := e7
        simp only [fill,Act.put,List.setIfInBounds_toArray,List.set_cons_zero,List.set_cons_succ,e7] at hK ⊢
        have acc : Bx W6 W := Base.bx hB
        have r := hT6.below acc hT6.lt
        have j0 := r.free 0
        have j1 := r.free 1
        have j2 := r.free 2
        have j3 := r.free 3
        have j4 := r.free 4
        have j5 := r.free 5
        have j6 := r.free 6
        have j7 := r.free 7
        have j8 := r.free 8
        have j9 := r.free 9
        have j10 := r.free 10
        have j11 := r.free 11
        have k0 := r.cell0
        have k1 := r.cell1
        have k2 := r.cell2
        have k3 := r.cell3
        have k4 := r.cell4
        have k5 := r.cell5
        have k6 := r.cell6
        have k7 := r.cell7
        have k8 := r.cell8
        have k9 := r.cell9
        have k10 := r.cell10
        have k11 := r.cell11
        go_simp
        have tr := Row12.touch (w := W) (b := s) r (.bool t0) (.int .u64 y0) (.bool t1) (.int .u64 y1) (.slice q1 m1 d1) (.bool u0) (.int .u64 z0) (.slice r0 n0 f0) (.bool u1) (.int .u64 z1) (.slice r1 n1 f1) q0 m0 d0 rfl
        exact hid hK undef _ ⟨s,rfl,tr.1⟩ ⟨_,_,_,_,_,_,_,_,_,_,_,_,_,_,_,_,_,_,_,_,tr.2,IsTurn.touch ⟨_,_,_,_,_,_,_,_,_,_,_,_,_,_,_,_,_,_,_,_,rfl,ht7⟩ tr.1⟩ (novar rfl)
      · rintro env W7 hB ⟨h0,h1,h2,h3,h4,h5,h6,h7,h8,-⟩ hv hap
        obtain ⟨y4,k4⟩ := h4
        have e4 : env 4 = .agg #[.int .u64 x15,.slice u15 m15 k15] := y4
        replace k4 : C (.slice p7 l7 c7) W7 := k4
        obtain ⟨t0,t1,u0,u1,y0,y1,z0,z1,q0,q1,r0,r1,m0,m1,n0,n1,d0,d1,f0,f1,rT,tT⟩ := h8
        simp only [fill,Act.put,List.setIfInBounds_toArray,List.set_cons_zero,List.set_cons_succ,e4]
        have o7 : Only W6 W7 (fun k => k = s) := hB
        rw [← z13,e7] at r13
        have rE : EBox W7 e (.slice pb lb cb) (.slice p7 l7 c7) := (o7.2.2.2.2 e r13.lt (fun h => (by omega : s ≠ e) h.symm)).trans r13
        have oW : Only w W7 (fun k => k = e) := ⟨o7.1.trans b6.1,o7.2.1.trans b6.2.1,o7.2.2.1.trans b6.2.2.1,Nat.le_trans b6.2.2.2.1 o7.2.2.2.1,fun k hk hp => (o7.2.2.2.2 k (Nat.lt_of_lt_of_le hk b6.2.2.2.1) (fun h => by have h : k = s := h; omega)).trans (b6.2.2.2.2 k hk hp)⟩
        go_wp2_with fail
        exact bodyPost_ret (v := .agg #[.bool t0,.int .u64 y0,.slice q0 m0 d0,.bool t1,.int .u64 y1,.slice q1 m1 d1,.bool u0,.int .u64 z0,.slice r0 n0 f0,.bool u1,.int .u64 z1,.slice r1 n1 f1]) (results_cell_row Tryz.results34 _ _ s _ _ (0,0) _ rfl rT Tryz.underlying73 rfl (by kernel_rfl)) rfl ⟨_,p7,l7,c7,rfl,tT,rE,k4,oW⟩
end Go.Proofs.YtgccgacpifebbaaGreatDoor
namespace Go.Proofs.YtgccgacpifebbaaGreatDoor
open Go.RowKit
set_option linter.unusedVariables false
theorem Var.only {w w' : World} {c : Nat} {x y : Value} {p : Nat → Prop} (h : Var w c x y) (ho : Only w w' p) (hp : ¬ p c) : Var w' c x y := ⟨(ho.2.2.2.2 c h.lt hp).trans h.1,h.2⟩
end Go.Proofs.YtgccgacpifebbaaGreatDoor
