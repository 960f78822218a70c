/- whole: step,of 4 and 2. (gen_step2.py) -/
import Derived.Test.YtlkblgpekbeljaaGreatDoorWhoX0
namespace Go.Proofs.YtlkblgpekbeljaaGreatDoor
open Go.RowKit
set_option linter.unusedVariables false

theorem from_two (w : World) : Calls Tryz.prog 20 #[.bool true,.agg #[.int .u64 2,.slice none 0 0]] w fun e w' => ∃ b x p l k,e = .returned (.agg #[.bool b,.int .u64 x,.slice p l k]) ∧ IsInt w' (.agg #[.bool b,.int .u64 x,.slice p l k]) (-2) ∧ Below w.heap.size w w' := by
  refine (from_int true _ 2 w (IsNat.word ⟨by decide,by decide⟩)).mono ?_
  rintro e w' ⟨v,rfl,⟨x,p,l,k,rfl,hx⟩,hb⟩
  exact ⟨_,_,_,_,_,rfl,⟨x,p,l,k,rfl,hx⟩,hb⟩
set_option maxRecDepth 100000 in
set_option maxHeartbeats 8000000 in
theorem step_42 (e ga gb ca cb : Nat) (w : World) (nab : ga ≠ gb) (nea : e ≠ ga) (neb : e ≠ gb) (hca : 1 ≤ ca) (hcb : 1 ≤ cb) (he : EBox w e (.slice (some ⟨ga,0,none⟩) 1 ca) (.slice (some ⟨gb,0,none⟩) 1 cb)) (ha : Arr w ga 22 .u64 [4]) (hb : Arr w gb 22 .u64 [2]) :
    Calls Tryz.prog 48 #[.pointer (some ⟨e,0,none⟩)] w fun r w' => ∃ v g,r = .returned v ∧ IsTurn w' v 0 1 1 (-2) ∧ EBox w' e (.slice (some ⟨gb,0,none⟩) 1 cb) (.slice (some ⟨g,0,none⟩) 0 0) ∧ Only w w' (fun k => k = e) := by
  have tp := fun W (h1 : EBox W e (.slice (some ⟨ga,0,none⟩) 1 ca) (.slice (some ⟨gb,0,none⟩) 1 cb)) (h2 : Arr W ga 22 .u64 [4]) (h3 : Arr W gb 22 .u64 [2]) => tops_c 4 2 4611686018427387904 2305843009213693952 (Lib.hid (by decide +kernel)) (Lib.hid (by decide +kernel)) (by decide +kernel) e ga gb ca cb W h1 h2 h3
  have b0 : Below w.heap.size w (w.alloc (.cells #[.bool false,.int .u64 0,.slice none 0 0,.bool false,.int .u64 0,.slice none 0 0,.bool false,.int .u64 0,.slice none 0 0,.bool false,.int .u64 0,.slice none 0 0] 87)) := by go_grown
  have hT : Row12 (w.alloc (.cells #[.bool false,.int .u64 0,.slice none 0 0,.bool false,.int .u64 0,.slice none 0 0,.bool false,.int .u64 0,.slice none 0 0,.bool false,.int .u64 0,.slice none 0 0] 87)) w.heap.size (.bool false) (.int .u64 0) (.slice none 0 0) (.bool false) (.int .u64 0) (.slice none 0 0) (.bool false) (.int .u64 0) (.slice none 0 0) (.bool false) (.int .u64 0) (.slice none 0 0) := heap_new w _ _ rfl
  have he0 := he.lt
  replace he := he.below b0 he.lt
  have ha0 := ha.lt
  have hb0 := hb.lt
  replace ha := ha.below b0 ha.lt
  replace hb := hb.below b0 hb.lt
  obtain ⟨P,hP⟩ : ∃ P,(fun k => k = e) = P := ⟨_,rfl⟩
  have pe : P e := by subst hP; rfl
  have hBw := (Only.refl w P).below b0
  go_enter Tryz.func48,Tryz.ntmps48
  go_wp2_with fail
  generalize (w.alloc (.cells #[.bool false,.int .u64 0,.slice none 0 0,.bool false,.int .u64 0,.slice none 0 0,.bool false,.int .u64 0,.slice none 0 0,.bool false,.int .u64 0,.slice none 0 0] 87)) = W0 at b0 hT he ha hb hBw ⊢
  obtain ⟨s,hs⟩ : ∃ s,w.heap.size = s := ⟨_,rfl⟩
  rw [hs] at hT ⊢
  refine (tp W0 he ha hb).mono ?_
  rintro r W1 ⟨rfl,m1,rfl⟩
  replace he : EBox (W0.drewN m1) _ _ _ := he
  replace ha := ha.drewN m1
  replace hb := hb.drewN m1
  replace hT : Row12 (W0.drewN m1) s (.bool false) (.int .u64 0) (.slice none 0 0) (.bool false) (.int .u64 0) (.slice none 0 0) (.bool false) (.int .u64 0) (.slice none 0 0) (.bool false) (.int .u64 0) (.slice none 0 0) := hT
  replace hBw : Only w (W0.drewN m1) P := hBw
  generalize W0.drewN m1 = W1 at he ha hb hT hBw ⊢
  go_wp2_with fail
  refine (sure_42 _).mono ?_
  rintro r W2 ⟨rfl,b2⟩
  replace he := he.below b2 he.lt
  replace ha := ha.below b2 ha.lt
  replace hb := hb.below b2 hb.lt
  replace hT := hT.below b2 hT.lt
  replace hBw := hBw.below b2
  have b3 : Below W2.heap.size W2 (W2.alloc (.cells #[.int .i64 1,.int .i64 0,.int .i64 0,.int .i64 1] 124)) := by go_grown
  replace he := he.below b3 he.lt
  replace ha := ha.below b3 ha.lt
  replace hb := hb.below b3 hb.lt
  replace hT := hT.below b3 hT.lt
  replace hBw := hBw.below b3
  go_wp2_with fail
  generalize (W2.alloc (.cells #[.int .i64 1,.int .i64 0,.int .i64 0,.int .i64 1] 124)) = W3 at he ha hb hT hBw ⊢
  generalize W2.heap.size = lb
  have hga := ha
  have hgb := hb
  clear ha hb
  have zE := he.lt
  generalize (Value.tuple #[.agg #[.int .i64 1,.int .i64 0,.int .i64 0,.int .i64 1],.bool false]) = V8
  generalize (Value.agg #[.int .i64 1,.int .i64 0,.int .i64 0,.int .i64 1]) = V14
  generalize (Value.tuple #[.int .i64 4611686018427387904,.int .i64 2305843009213693952]) = V10
  generalize (Value.int .i64 4611686018427387904) = V11
  generalize (Value.int .i64 2305843009213693952) = V12
  generalize undef = u
  generalize (Value.bool false) = V15
  refine wpIn_wide (n := 5) |>.1 ?_
  refine region_ways (by kernel_rfl) fun R hR => ?_
  have U := fun (n : Nat) (l : Array Bool) (a : Act) (w : World) (h : R n l a w) => cast (congrFun (congrFun (congrFun (congrFun hR.symm n) l) a) w) h
  have H0 : ∀ (W : World) (acc : Bx W3 W) (p5 : Nat) (v5 : Vx W p5 2) (h5 : W3.heap.size ≤ p5) (p6 : Nat) (v6 : Vx W p6 0) (h6 : W3.heap.size ≤ p6) (n56 : p5 ≠ p6),R 0 #[Ix,Ix,Ix,Ix,Ix,Ix,Ix,Ix,Ix,Ix,Ix,Ix,Ix,Ix,Ix,Ix,Ix,Ix,Ix,Ix] { tmps := #[ρ e,u,ρ s,ρ lb,V15,ρ p5,ρ p6,.bool true,V8,ρ e,V10,V11,V12,V8,V14,V15,V15,u,u,u,u,u,u,u,u,u,u,u,u,u,u,u,u,u,u,u,u,u,u,.tuple #[ν 2,ν 0,.bool true],ρ e,ρ e,ρ e,ς ga 1 ca,ν 4,ρ e,ρ e,.pointer (some ⟨e,1,none⟩),ς gb 1 cb,ν 2,.tuple #[ν 2,ν 0,.bool true],ν 2,ν 0,.bool true,u,u,u,u,u,u,u,u,u,u,u,u,u,u,u,u,u,u,u,u],defers := [] } W := by
    intro W acc p5 v5 h5 p6 v6 h6 n56
    rw [← hR]
    dsimp only [ρ,ς,ν]
    refine wpAnyIn_done (by kernel_rfl) ?_ _
    have he5 := he.below acc zE
    have hT5 := hT.below acc hT.lt
    have hW5 := hBw.below acc
    have d5 : e ≠ p5 := by omega
    have d6 : e ≠ p6 := by omega
    have s5 : s ≠ p5 := by have := hT.lt; omega
    have s6 : s ≠ p6 := by have := hT.lt; omega
    have ds : s ≠ e := by omega
    clear acc he hT hBw h5 h6 hga hgb
    have wz := fun W => wordsOf_zero W
    have z0 := he5.lt
    have acc := Below.refl W.heap.size W
    have e0 := he5.cell0
    have e1 := he5.cell1
    have g0 := v6.c0
    have g1 := v6.c1
    have j0 := he5.free 0
    have j1 := he5.free 1
    go_wp2_with fail
    refine region6_42 e p6 gb cb _ _ _ _ _ _ _ _ _ _ _ _ _ _ _ _ _ _ _ _ _ _ _ _ _ _ _ _ _ _ _ _ _ _ _ _ _ _ _ _ _ _ _ _ _ _ _ _ _ _ _ _ _ _ _ _ _ _ _ _ _ _ _ _ _ _ _ _ _ _ _ _ _ _ W he5 v6 (fun W6 g ho rE => ?_)
    all_goals
      clear acc e0 e1 g0 g1 j0 j1 z0
      have x5 := v5.only ho (Ne.symm d5)
      have rT := hT5.only ho (fun h => ds h)
      have rW := hW5.trans' ho (fun k hk => by subst hP; exact hk)
      clear v5 v6 hT5 he5 hW5 ho
      have s5' := Ne.symm s5
      have zT := rT.lt
      have acc := Below.refl W6.heap.size W6
      have o0 := fun W => of_shape 0 (by decide) W
      have o1 := fun W => of_shape 1 (by decide) W
      have om := fun W => from_two W
      have g0 := (x5.below acc x5.lt).c0
      have g1 := (x5.below acc x5.lt).c1
      have f0 := (rT.below acc zT).free 0
      have f1 := (rT.below acc zT).free 1
      have f2 := (rT.below acc zT).free 2
      have f3 := (rT.below acc zT).free 3
      have f4 := (rT.below acc zT).free 4
      have f5 := (rT.below acc zT).free 5
      have f6 := (rT.below acc zT).free 6
      have f7 := (rT.below acc zT).free 7
      have f8 := (rT.below acc zT).free 8
      have f9 := (rT.below acc zT).free 9
      have f10 := (rT.below acc zT).free 10
      have f11 := (rT.below acc zT).free 11
      have k0 := (rT.below acc zT).cell0
      have k1 := (rT.below acc zT).cell1
      have k2 := (rT.below acc zT).cell2
      have k3 := (rT.below acc zT).cell3
      have k4 := (rT.below acc zT).cell4
      have k5 := (rT.below acc zT).cell5
      have k6 := (rT.below acc zT).cell6
      have k7 := (rT.below acc zT).cell7
      have k8 := (rT.below acc zT).cell8
      have k9 := (rT.below acc zT).cell9
      have k10 := (rT.below acc zT).cell10
      have k11 := (rT.below acc zT).cell11
      go_wp2_with fail
      go_region_held3 (fun w' => w'.cell? ⟨p5,0,none⟩ = some (.int .u64 2) ∧ w'.cell? ⟨p5,1,none⟩ = some (.slice none 0 0))
        (first | with_reducible exact ⟨(x5.below acc x5.lt).c0,(x5.below acc x5.lt).c1⟩ | with_reducible exact ⟨(x5.below acc.drew x5.lt).c0,(x5.below acc.drew x5.lt).c1⟩ | with_reducible exact ⟨(((((((((((((x5.below acc x5.lt).other s5' _).other s5' _).other s5' _).other s5' _).other s5' _).other s5' _).other s5' _).other s5' _).other s5' _).other s5' _).other s5' _).other s5' _).c0,(((((((((((((x5.below acc x5.lt).other s5' _).other s5' _).other s5' _).other s5' _).other s5' _).other s5' _).other s5' _).other s5' _).other s5' _).other s5' _).other s5' _).other s5' _).c1⟩)
        (first
          | (go_at_call 8; (with_reducible refine (o0 _).mono ?_); rintro r wA ⟨tA,yA,qA,mA,dA,rfl,iA,hb⟩; (first | replace iB := iB.below hb | replace iB := iB.drew.below hb | skip); (first | replace iC := iC.below hb | replace iC := iC.drew.below hb | skip); (first | replace iD := iD.below hb | replace iD := iD.drew.below hb | skip); (first | replace acc := below_acc acc acc.size hb | replace acc := below_accD acc acc.size hb); have g0 := (x5.below acc x5.lt).c0; have g1 := (x5.below acc x5.lt).c1; have f0 := (rT.below acc zT).free 0; have f1 := (rT.below acc zT).free 1; have f2 := (rT.below acc zT).free 2; have f3 := (rT.below acc zT).free 3; have f4 := (rT.below acc zT).free 4; have f5 := (rT.below acc zT).free 5; have f6 := (rT.below acc zT).free 6; have f7 := (rT.below acc zT).free 7; have f8 := (rT.below acc zT).free 8; have f9 := (rT.below acc zT).free 9; have f10 := (rT.below acc zT).free 10; have f11 := (rT.below acc zT).free 11; have k0 := (rT.below acc zT).cell0; have k1 := (rT.below acc zT).cell1; have k2 := (rT.below acc zT).cell2; have k3 := (rT.below acc zT).cell3; have k4 := (rT.below acc zT).cell4; have k5 := (rT.below acc zT).cell5; have k6 := (rT.below acc zT).cell6; have k7 := (rT.below acc zT).cell7; have k8 := (rT.below acc zT).cell8; have k9 := (rT.below acc zT).cell9; have k10 := (rT.below acc zT).cell10; have k11 := (rT.below acc zT).cell11; clear hb)
          | (have tt := iB; clear tt; go_at_call 8; (with_reducible refine (o1 _).mono ?_); rintro r wC ⟨tC,yC,qC,mC,dC,rfl,iC,hb⟩; (first | replace iA := iA.below hb | replace iA := iA.drew.below hb | skip); (first | replace iB := iB.below hb | replace iB := iB.drew.below hb | skip); (first | replace iD := iD.below hb | replace iD := iD.drew.below hb | skip); (first | replace acc := below_acc acc acc.size hb | replace acc := below_accD acc acc.size hb); have g0 := (x5.below acc x5.lt).c0; have g1 := (x5.below acc x5.lt).c1; have f0 := (rT.below acc zT).free 0; have f1 := (rT.below acc zT).free 1; have f2 := (rT.below acc zT).free 2; have f3 := (rT.below acc zT).free 3; have f4 := (rT.below acc zT).free 4; have f5 := (rT.below acc zT).free 5; have f6 := (rT.below acc zT).free 6; have f7 := (rT.below acc zT).free 7; have f8 := (rT.below acc zT).free 8; have f9 := (rT.below acc zT).free 9; have f10 := (rT.below acc zT).free 10; have f11 := (rT.below acc zT).free 11; have k0 := (rT.below acc zT).cell0; have k1 := (rT.below acc zT).cell1; have k2 := (rT.below acc zT).cell2; have k3 := (rT.below acc zT).cell3; have k4 := (rT.below acc zT).cell4; have k5 := (rT.below acc zT).cell5; have k6 := (rT.below acc zT).cell6; have k7 := (rT.below acc zT).cell7; have k8 := (rT.below acc zT).cell8; have k9 := (rT.below acc zT).cell9; have k10 := (rT.below acc zT).cell10; have k11 := (rT.below acc zT).cell11; clear hb)
          | (go_at_call 8; (with_reducible refine (o1 _).mono ?_); rintro r wB ⟨tB,yB,qB,mB,dB,rfl,iB,hb⟩; (first | replace iA := iA.below hb | replace iA := iA.drew.below hb | skip); (first | replace iC := iC.below hb | replace iC := iC.drew.below hb | skip); (first | replace iD := iD.below hb | replace iD := iD.drew.below hb | skip); (first | replace acc := below_acc acc acc.size hb | replace acc := below_accD acc acc.size hb); have g0 := (x5.below acc x5.lt).c0; have g1 := (x5.below acc x5.lt).c1; have f0 := (rT.below acc zT).free 0; have f1 := (rT.below acc zT).free 1; have f2 := (rT.below acc zT).free 2; have f3 := (rT.below acc zT).free 3; have f4 := (rT.below acc zT).free 4; have f5 := (rT.below acc zT).free 5; have f6 := (rT.below acc zT).free 6; have f7 := (rT.below acc zT).free 7; have f8 := (rT.below acc zT).free 8; have f9 := (rT.below acc zT).free 9; have f10 := (rT.below acc zT).free 10; have f11 := (rT.below acc zT).free 11; have k0 := (rT.below acc zT).cell0; have k1 := (rT.below acc zT).cell1; have k2 := (rT.below acc zT).cell2; have k3 := (rT.below acc zT).cell3; have k4 := (rT.below acc zT).cell4; have k5 := (rT.below acc zT).cell5; have k6 := (rT.below acc zT).cell6; have k7 := (rT.below acc zT).cell7; have k8 := (rT.below acc zT).cell8; have k9 := (rT.below acc zT).cell9; have k10 := (rT.below acc zT).cell10; have k11 := (rT.below acc zT).cell11; clear hb)
          | (go_at_call 20; (with_reducible refine (om _).mono ?_); rintro r wD ⟨tD,yD,qD,mD,dD,rfl,iD,hb⟩; (first | replace iA := iA.below hb | replace iA := iA.drew.below hb | skip); (first | replace iB := iB.below hb | replace iB := iB.drew.below hb | skip); (first | replace iC := iC.below hb | replace iC := iC.drew.below hb | skip); (first | replace acc := below_acc acc acc.size hb | replace acc := below_accD acc acc.size hb); have g0 := (x5.below acc x5.lt).c0; have g1 := (x5.below acc x5.lt).c1; have f0 := (rT.below acc zT).free 0; have f1 := (rT.below acc zT).free 1; have f2 := (rT.below acc zT).free 2; have f3 := (rT.below acc zT).free 3; have f4 := (rT.below acc zT).free 4; have f5 := (rT.below acc zT).free 5; have f6 := (rT.below acc zT).free 6; have f7 := (rT.below acc zT).free 7; have f8 := (rT.below acc zT).free 8; have f9 := (rT.below acc zT).free 9; have f10 := (rT.below acc zT).free 10; have f11 := (rT.below acc zT).free 11; have k0 := (rT.below acc zT).cell0; have k1 := (rT.below acc zT).cell1; have k2 := (rT.below acc zT).cell2; have k3 := (rT.below acc zT).cell3; have k4 := (rT.below acc zT).cell4; have k5 := (rT.below acc zT).cell5; have k6 := (rT.below acc zT).cell6; have k7 := (rT.below acc zT).cell7; have k8 := (rT.below acc zT).cell8; have k9 := (rT.below acc zT).cell9; have k10 := (rT.below acc zT).cell10; have k11 := (rT.below acc zT).cell11; clear hb))
      all_goals
        have r0 := rT.below acc zT
        have q0 := r0.set0 (.bool tA) (.int .u64 yA) (.slice qA mA dA)
        have q1 := q0.set3 (.bool tB) (.int .u64 yB) (.slice qB mB dB)
        have q2 := q1.set6 (.bool tC) (.int .u64 yC) (.slice qC mC dC)
        have q3 := q2.set9 (.bool tD) (.int .u64 yD) (.slice qD mD dD)
        have jA := (((iA.sets r0.cell2 0 1 2 (.bool tA) (.int .u64 yA) (.slice qA mA dA)).sets q0.cell2 3 4 5 (.bool tB) (.int .u64 yB) (.slice qB mB dB)).sets q1.cell2 6 7 8 (.bool tC) (.int .u64 yC) (.slice qC mC dC)).sets q2.cell2 9 10 11 (.bool tD) (.int .u64 yD) (.slice qD mD dD)
        have jB := (((iB.sets r0.cell2 0 1 2 (.bool tA) (.int .u64 yA) (.slice qA mA dA)).sets q0.cell2 3 4 5 (.bool tB) (.int .u64 yB) (.slice qB mB dB)).sets q1.cell2 6 7 8 (.bool tC) (.int .u64 yC) (.slice qC mC dC)).sets q2.cell2 9 10 11 (.bool tD) (.int .u64 yD) (.slice qD mD dD)
        have jC := (((iC.sets r0.cell2 0 1 2 (.bool tA) (.int .u64 yA) (.slice qA mA dA)).sets q0.cell2 3 4 5 (.bool tB) (.int .u64 yB) (.slice qB mB dB)).sets q1.cell2 6 7 8 (.bool tC) (.int .u64 yC) (.slice qC mC dC)).sets q2.cell2 9 10 11 (.bool tD) (.int .u64 yD) (.slice qD mD dD)
        have jD := (((iD.sets r0.cell2 0 1 2 (.bool tA) (.int .u64 yA) (.slice qA mA dA)).sets q0.cell2 3 4 5 (.bool tB) (.int .u64 yB) (.slice qB mB dB)).sets q1.cell2 6 7 8 (.bool tC) (.int .u64 yC) (.slice qC mC dC)).sets q2.cell2 9 10 11 (.bool tD) (.int .u64 yD) (.slice qD mD dD)
        have gE := (((((((((((((rE.below acc rE.lt).other (a := ⟨s,0,none⟩) (Ne.symm ds) (.bool tA)).other (a := ⟨s,1,none⟩) (Ne.symm ds) (.int .u64 yA)).other (a := ⟨s,2,none⟩) (Ne.symm ds) (.slice qA mA dA)).other (a := ⟨s,3,none⟩) (Ne.symm ds) (.bool tB)).other (a := ⟨s,4,none⟩) (Ne.symm ds) (.int .u64 yB)).other (a := ⟨s,5,none⟩) (Ne.symm ds) (.slice qB mB dB)).other (a := ⟨s,6,none⟩) (Ne.symm ds) (.bool tC)).other (a := ⟨s,7,none⟩) (Ne.symm ds) (.int .u64 yC)).other (a := ⟨s,8,none⟩) (Ne.symm ds) (.slice qC mC dC)).other (a := ⟨s,9,none⟩) (Ne.symm ds) (.bool tD)).other (a := ⟨s,10,none⟩) (Ne.symm ds) (.int .u64 yD)).other (a := ⟨s,11,none⟩) (Ne.symm ds) (.slice qD mD dD))
        have hsw : w.heap.size ≤ s := by omega
        have gW := (((((((((((((rW.below acc).setNew hsw 0 (.bool tA)).setNew hsw 1 (.int .u64 yA)).setNew hsw 2 (.slice qA mA dA)).setNew hsw 3 (.bool tB)).setNew hsw 4 (.int .u64 yB)).setNew hsw 5 (.slice qB mB dB)).setNew hsw 6 (.bool tC)).setNew hsw 7 (.int .u64 yC)).setNew hsw 8 (.slice qC mC dC)).setNew hsw 9 (.bool tD)).setNew hsw 10 (.int .u64 yD)).setNew hsw 11 (.slice qD mD dD))
        go_wp2_with fail
        rw [hP]
        exact bodyPost_ret (v := .agg #[.bool tA,.int .u64 yA,.slice qA mA dA,.bool tB,.int .u64 yB,.slice qB mB dB,.bool tC,.int .u64 yC,.slice qC mC dC,.bool tD,.int .u64 yD,.slice qD mD dD]) (results_cell_row Tryz.results48 _ _ s _ _ (0,0) _ rfl q3 Tryz.underlying87 rfl (by kernel_rfl)) rfl
          ⟨_,g,rfl,⟨tA,tB,tC,tD,yA,yB,yC,yD,qA,qB,qC,qD,mA,mB,mC,mD,dA,dB,dC,dD,rfl,jA,jB,jC,jD⟩,gE,gW⟩
  have H1 : ∀ (W : World) (acc : Bx W3 W) (p5 : Nat) (v5 : Vx W p5 2) (h5 : W3.heap.size ≤ p5) (p6 : Nat) (v6 : Vx W p6 0) (h6 : W3.heap.size ≤ p6) (n56 : p5 ≠ p6),R 1 #[Ix,Ix,Ix,Ix,Ix,Ix,Ix,Ix,Ix,Ix,Ix,Ix,Ix,Ix,Ix,Ix,Ix,Ix,Ix,Ox] { tmps := #[ρ e,u,ρ s,ρ lb,V15,ρ p5,ρ p6,u,V8,ρ e,V10,V11,V12,V8,V14,V15,V15,u,u,u,u,u,u,u,u,u,u,u,u,u,u,u,u,u,u,u,u,u,u,.tuple #[ν 2,ν 0,.bool true],ρ e,ρ e,ρ e,ς ga 1 ca,ν 4,ρ e,ρ e,.pointer (some ⟨e,1,none⟩),ς gb 1 cb,ν 2,.tuple #[ν 2,ν 0,.bool true],ν 2,ν 0,.bool true,u,u,u,u,u,u,u,u,u,u,u,u,u,u,u,u,u,u,u,u],defers := [] } W := by
    intro W acc p5 v5 h5 p6 v6 h6 n56
    rw [← hR]
    dsimp only [ρ,ς,ν]
    have g0 := v5.c0
    have g1 := v5.c1
    have i0 := v5.free 0
    have i1 := v5.free 1
    have k0 := v6.c0
    have k1 := v6.c1
    have l0 := v6.free 0
    have l1 := v6.free 1
    refine wpAnyIn_ready (rs := [19]) (by kernel_rfl) (by simp) (AllReadyIn.cons rfl (fun K hK => ?_) (AllReadyIn.nil))
    · go_simp; exact hK _ _ (U _ _ _ _ (H0 W acc p5 v5 h5 p6 v6 h6 n56))
  have H2 : ∀ (W : World) (acc : Bx W3 W) (p5 : Nat) (v5 : Vx W p5 2) (h5 : W3.heap.size ≤ p5) (p6 : Nat) (v6 : Vx W p6 0) (h6 : W3.heap.size ≤ p6) (n56 : p5 ≠ p6),R 2 #[Ix,Ix,Ix,Ix,Ix,Ix,Ix,Ix,Ix,Ix,Ix,Ix,Ix,Ix,Ix,Ix,Ix,Ix,Ox,Ox] { tmps := #[ρ e,u,ρ s,ρ lb,V15,ρ p5,ρ p6,u,V8,ρ e,V10,V11,V12,V8,V14,V15,V15,u,u,u,u,u,u,u,u,u,u,u,u,u,u,u,u,u,u,u,u,u,u,.tuple #[ν 2,ν 0,.bool true],ρ e,ρ e,ρ e,ς ga 1 ca,ν 4,ρ e,ρ e,.pointer (some ⟨e,1,none⟩),ς gb 1 cb,ν 2,.tuple #[ν 2,ν 0,.bool true],ν 2,ν 0,.bool true,u,u,u,u,u,u,u,u,u,u,u,u,u,u,u,u,u,u,u,u],defers := [] } W := by
    intro W acc p5 v5 h5 p6 v6 h6 n56
    rw [← hR]
    dsimp only [ρ,ς,ν]
    have g0 := v5.c0
    have g1 := v5.c1
    have i0 := v5.free 0
    have i1 := v5.free 1
    have k0 := v6.c0
    have k1 := v6.c1
    have l0 := v6.free 0
    have l1 := v6.free 1
    refine wpAnyIn_ready (rs := [18]) (by kernel_rfl) (by simp) (AllReadyIn.cons rfl (fun K hK => ?_) (AllReadyIn.nil))
    · go_simp; exact hK _ _ (U _ _ _ _ (H1 ((W.setCell ⟨p6,0,none⟩ (.int .u64 0)).setCell ⟨p6,1,none⟩ (.slice none 0 0)) (below_two acc h6 _ _) p5 ((v5.other n56 _).other n56 _) h5 p6 (v6.set _ _ _ _) h6 n56))
  have H3 : ∀ (W : World) (acc : Bx W3 W) (p5 : Nat) (v5 : Vx W p5 0) (h5 : W3.heap.size ≤ p5) (p6 : Nat) (v6 : Vx W p6 0) (h6 : W3.heap.size ≤ p6) (n56 : p5 ≠ p6),R 3 #[Ix,Ix,Ix,Ix,Ix,Ix,Ix,Ix,Ix,Ix,Ix,Ix,Ix,Ix,Ix,Ix,Ix,Ox,Ox,Ox] { tmps := #[ρ e,u,ρ s,ρ lb,V15,ρ p5,ρ p6,u,V8,ρ e,V10,V11,V12,V8,V14,V15,V15,u,u,u,u,u,u,u,u,u,u,u,u,u,u,u,u,u,u,u,u,u,u,.tuple #[ν 2,ν 0,.bool true],ρ e,ρ e,ρ e,ς ga 1 ca,ν 4,ρ e,ρ e,.pointer (some ⟨e,1,none⟩),ς gb 1 cb,ν 2,.tuple #[ν 2,ν 0,.bool true],ν 2,ν 0,.bool true,u,u,u,u,u,u,u,u,u,u,u,u,u,u,u,u,u,u,u,u],defers := [] } W := by
    intro W acc p5 v5 h5 p6 v6 h6 n56
    rw [← hR]
    dsimp only [ρ,ς,ν]
    have g0 := v5.c0
    have g1 := v5.c1
    have i0 := v5.free 0
    have i1 := v5.free 1
    have k0 := v6.c0
    have k1 := v6.c1
    have l0 := v6.free 0
    have l1 := v6.free 1
    refine wpAnyIn_ready (rs := [17]) (by kernel_rfl) (by simp) (AllReadyIn.cons rfl (fun K hK => ?_) (AllReadyIn.nil))
    · go_simp; exact hK _ _ (U _ _ _ _ (H2 ((W.setCell ⟨p5,0,none⟩ (.int .u64 2)).setCell ⟨p5,1,none⟩ (.slice none 0 0)) (below_two acc h5 _ _) p5 (v5.set _ _ _ _) h5 p6 ((v6.other (Ne.symm n56) _).other (Ne.symm n56) _) h6 n56))
  have H4 : ∀ (W : World) (acc : Bx W3 W) (p5 : Nat) (v5 : Vx W p5 0) (h5 : W3.heap.size ≤ p5),R 4 #[Ix,Ix,Ix,Ix,Ix,Ix,Ix,Ix,Ix,Ix,Ix,Ix,Ix,Ix,Ix,Ix,Ox,Ox,Ox,Ox] { tmps := #[ρ e,u,ρ s,ρ lb,V15,ρ p5,u,u,V8,ρ e,V10,V11,V12,V8,V14,V15,V15,u,u,u,u,u,u,u,u,u,u,u,u,u,u,u,u,u,u,u,u,u,u,.tuple #[ν 2,ν 0,.bool true],ρ e,ρ e,ρ e,ς ga 1 ca,ν 4,ρ e,ρ e,.pointer (some ⟨e,1,none⟩),ς gb 1 cb,ν 2,.tuple #[ν 2,ν 0,.bool true],ν 2,ν 0,.bool true,u,u,u,u,u,u,u,u,u,u,u,u,u,u,u,u,u,u,u,u],defers := [] } W := by
    intro W acc p5 v5 h5
    rw [← hR]
    dsimp only [ρ,ς,ν]
    refine wpAnyIn_ready (rs := [16]) (by kernel_rfl) (by simp) (AllReadyIn.cons rfl (fun K hK => ?_) (AllReadyIn.nil))
    · go_simp; exact hK _ _ (U _ _ _ _ (H3 (W.alloc (.cells #[.int .u64 0,.slice none 0 0] 25)) (acc.alloc acc.size _) p5 (v5.alloc _) h5 W.heap.size (Var.new W _ _ _ _ _ rfl) acc.size (Nat.ne_of_lt v5.lt)))
  have H5 : ∀ (W : World) (acc : Bx W3 W) (p6 : Nat) (v6 : Vx W p6 0) (h6 : W3.heap.size ≤ p6),R 4 #[Ix,Ix,Ix,Ix,Ix,Ix,Ix,Ix,Ix,Ix,Ix,Ix,Ix,Ix,Ix,Ox,Ix,Ox,Ox,Ox] { tmps := #[ρ e,u,ρ s,ρ lb,V15,u,ρ p6,u,V8,ρ e,V10,V11,V12,V8,V14,V15,V15,u,u,u,u,u,u,u,u,u,u,u,u,u,u,u,u,u,u,u,u,u,u,.tuple #[ν 2,ν 0,.bool true],ρ e,ρ e,ρ e,ς ga 1 ca,ν 4,ρ e,ρ e,.pointer (some ⟨e,1,none⟩),ς gb 1 cb,ν 2,.tuple #[ν 2,ν 0,.bool true],ν 2,ν 0,.bool true,u,u,u,u,u,u,u,u,u,u,u,u,u,u,u,u,u,u,u,u],defers := [] } W := by
    intro W acc p6 v6 h6
    rw [← hR]
    dsimp only [ρ,ς,ν]
    refine wpAnyIn_ready (rs := [15]) (by kernel_rfl) (by simp) (AllReadyIn.cons rfl (fun K hK => ?_) (AllReadyIn.nil))
    · go_simp; exact hK _ _ (U _ _ _ _ (H3 (W.alloc (.cells #[.int .u64 0,.slice none 0 0] 25)) (acc.alloc acc.size _) W.heap.size (Var.new W _ _ _ _ _ rfl) acc.size p6 (v6.alloc _) h6 (Nat.ne_of_gt v6.lt)))
  have H6 : ∀ (W : World) (acc : Bx W3 W),R 5 #[Ix,Ix,Ix,Ix,Ix,Ix,Ix,Ix,Ix,Ix,Ix,Ix,Ix,Ix,Ix,Ox,Ox,Ox,Ox,Ox] { tmps := #[ρ e,u,ρ s,ρ lb,V15,u,u,u,V8,ρ e,V10,V11,V12,V8,V14,V15,V15,u,u,u,u,u,u,u,u,u,u,u,u,u,u,u,u,u,u,u,u,u,u,.tuple #[ν 2,ν 0,.bool true],ρ e,ρ e,ρ e,ς ga 1 ca,ν 4,ρ e,ρ e,.pointer (some ⟨e,1,none⟩),ς gb 1 cb,ν 2,.tuple #[ν 2,ν 0,.bool true],ν 2,ν 0,.bool true,u,u,u,u,u,u,u,u,u,u,u,u,u,u,u,u,u,u,u,u],defers := [] } W := by
    intro W acc
    rw [← hR]
    dsimp only [ρ,ς,ν]
    refine wpAnyIn_ready (rs := [15,16]) (by kernel_rfl) (by simp) (AllReadyIn.cons rfl (fun K hK => ?_) (AllReadyIn.cons rfl (fun K hK => ?_) (AllReadyIn.nil)))
    · go_simp; exact hK _ _ (U _ _ _ _ (H4 (W.alloc (.cells #[.int .u64 0,.slice none 0 0] 25)) (acc.alloc acc.size _) W.heap.size (Var.new W _ _ _ _ _ rfl) acc.size))
    · go_simp; exact hK _ _ (U _ _ _ _ (H5 (W.alloc (.cells #[.int .u64 0,.slice none 0 0] 25)) (acc.alloc acc.size _) W.heap.size (Var.new W _ _ _ _ _ rfl) acc.size))
  have H7 : ∀ (W : World) (acc : Bx W3 W) (p5 : Nat) (v5 : Vx W p5 2) (h5 : W3.heap.size ≤ p5) (p6 : Nat) (v6 : Vx W p6 0) (h6 : W3.heap.size ≤ p6) (n56 : p5 ≠ p6),R 2 #[Ix,Ix,Ix,Ix,Ix,Ix,Ix,Ix,Ix,Ix,Ix,Ix,Ix,Ix,Ox,Ix,Ix,Ix,Ix,Ox] { tmps := #[ρ e,u,ρ s,ρ lb,V15,ρ p5,ρ p6,u,V8,ρ e,V10,V11,V12,V8,V14,V15,V15,u,u,u,u,u,u,u,u,u,u,u,u,u,u,u,u,u,u,u,u,u,u,.tuple #[ν 2,ν 0,.bool true],ρ e,ρ e,ρ e,ς ga 1 ca,ν 4,ρ e,ρ e,.pointer (some ⟨e,1,none⟩),ς gb 1 cb,ν 2,.tuple #[ν 2,ν 0,.bool true],ν 2,ν 0,u,u,u,u,u,u,u,u,u,u,u,u,u,u,u,u,u,u,u,u,u],defers := [] } W := by
    intro W acc p5 v5 h5 p6 v6 h6 n56
    rw [← hR]
    dsimp only [ρ,ς,ν]
    have g0 := v5.c0
    have g1 := v5.c1
    have i0 := v5.free 0
    have i1 := v5.free 1
    have k0 := v6.c0
    have k1 := v6.c1
    have l0 := v6.free 0
    have l1 := v6.free 1
    refine wpAnyIn_ready (rs := [14]) (by kernel_rfl) (by simp) (AllReadyIn.cons rfl (fun K hK => ?_) (AllReadyIn.nil))
    · go_simp; exact hK _ _ (U _ _ _ _ (H1 W acc p5 v5 h5 p6 v6 h6 n56))
  have H8 : ∀ (W : World) (acc : Bx W3 W) (p5 : Nat) (v5 : Vx W p5 2) (h5 : W3.heap.size ≤ p5) (p6 : Nat) (v6 : Vx W p6 0) (h6 : W3.heap.size ≤ p6) (n56 : p5 ≠ p6),R 3 #[Ix,Ix,Ix,Ix,Ix,Ix,Ix,Ix,Ix,Ix,Ix,Ix,Ix,Ix,Ox,Ix,Ix,Ix,Ox,Ox] { tmps := #[ρ e,u,ρ s,ρ lb,V15,ρ p5,ρ p6,u,V8,ρ e,V10,V11,V12,V8,V14,V15,V15,u,u,u,u,u,u,u,u,u,u,u,u,u,u,u,u,u,u,u,u,u,u,.tuple #[ν 2,ν 0,.bool true],ρ e,ρ e,ρ e,ς ga 1 ca,ν 4,ρ e,ρ e,.pointer (some ⟨e,1,none⟩),ς gb 1 cb,ν 2,.tuple #[ν 2,ν 0,.bool true],ν 2,ν 0,u,u,u,u,u,u,u,u,u,u,u,u,u,u,u,u,u,u,u,u,u],defers := [] } W := by
    intro W acc p5 v5 h5 p6 v6 h6 n56
    rw [← hR]
    dsimp only [ρ,ς,ν]
    have g0 := v5.c0
    have g1 := v5.c1
    have i0 := v5.free 0
    have i1 := v5.free 1
    have k0 := v6.c0
    have k1 := v6.c1
    have l0 := v6.free 0
    have l1 := v6.free 1
    refine wpAnyIn_ready (rs := [14,18]) (by kernel_rfl) (by simp) (AllReadyIn.cons rfl (fun K hK => ?_) (AllReadyIn.cons rfl (fun K hK => ?_) (AllReadyIn.nil)))
    · go_simp; exact hK _ _ (U _ _ _ _ (H2 W acc p5 v5 h5 p6 v6 h6 n56))
    · go_simp; exact hK _ _ (U _ _ _ _ (H7 ((W.setCell ⟨p6,0,none⟩ (.int .u64 0)).setCell ⟨p6,1,none⟩ (.slice none 0 0)) (below_two acc h6 _ _) p5 ((v5.other n56 _).other n56 _) h5 p6 (v6.set _ _ _ _) h6 n56))
  have H9 : ∀ (W : World) (acc : Bx W3 W) (p5 : Nat) (v5 : Vx W p5 0) (h5 : W3.heap.size ≤ p5) (p6 : Nat) (v6 : Vx W p6 0) (h6 : W3.heap.size ≤ p6) (n56 : p5 ≠ p6),R 4 #[Ix,Ix,Ix,Ix,Ix,Ix,Ix,Ix,Ix,Ix,Ix,Ix,Ix,Ix,Ox,Ix,Ix,Ox,Ox,Ox] { tmps := #[ρ e,u,ρ s,ρ lb,V15,ρ p5,ρ p6,u,V8,ρ e,V10,V11,V12,V8,V14,V15,V15,u,u,u,u,u,u,u,u,u,u,u,u,u,u,u,u,u,u,u,u,u,u,.tuple #[ν 2,ν 0,.bool true],ρ e,ρ e,ρ e,ς ga 1 ca,ν 4,ρ e,ρ e,.pointer (some ⟨e,1,none⟩),ς gb 1 cb,ν 2,.tuple #[ν 2,ν 0,.bool true],ν 2,ν 0,u,u,u,u,u,u,u,u,u,u,u,u,u,u,u,u,u,u,u,u,u],defers := [] } W := by
    intro W acc p5 v5 h5 p6 v6 h6 n56
    rw [← hR]
    dsimp only [ρ,ς,ν]
    have g0 := v5.c0
    have g1 := v5.c1
    have i0 := v5.free 0
    have i1 := v5.free 1
    have k0 := v6.c0
    have k1 := v6.c1
    have l0 := v6.free 0
    have l1 := v6.free 1
    refine wpAnyIn_ready (rs := [14,17]) (by kernel_rfl) (by simp) (AllReadyIn.cons rfl (fun K hK => ?_) (AllReadyIn.cons rfl (fun K hK => ?_) (AllReadyIn.nil)))
    · go_simp; exact hK _ _ (U _ _ _ _ (H3 W acc p5 v5 h5 p6 v6 h6 n56))
    · go_simp; exact hK _ _ (U _ _ _ _ (H8 ((W.setCell ⟨p5,0,none⟩ (.int .u64 2)).setCell ⟨p5,1,none⟩ (.slice none 0 0)) (below_two acc h5 _ _) p5 (v5.set _ _ _ _) h5 p6 ((v6.other (Ne.symm n56) _).other (Ne.symm n56) _) h6 n56))
  have H10 : ∀ (W : World) (acc : Bx W3 W) (p5 : Nat) (v5 : Vx W p5 0) (h5 : W3.heap.size ≤ p5),R 5 #[Ix,Ix,Ix,Ix,Ix,Ix,Ix,Ix,Ix,Ix,Ix,Ix,Ix,Ix,Ox,Ix,Ox,Ox,Ox,Ox] { tmps := #[ρ e,u,ρ s,ρ lb,V15,ρ p5,u,u,V8,ρ e,V10,V11,V12,V8,V14,V15,V15,u,u,u,u,u,u,u,u,u,u,u,u,u,u,u,u,u,u,u,u,u,u,.tuple #[ν 2,ν 0,.bool true],ρ e,ρ e,ρ e,ς ga 1 ca,ν 4,ρ e,ρ e,.pointer (some ⟨e,1,none⟩),ς gb 1 cb,ν 2,.tuple #[ν 2,ν 0,.bool true],ν 2,ν 0,u,u,u,u,u,u,u,u,u,u,u,u,u,u,u,u,u,u,u,u,u],defers := [] } W := by
    intro W acc p5 v5 h5
    rw [← hR]
    dsimp only [ρ,ς,ν]
    refine wpAnyIn_ready (rs := [14,16]) (by kernel_rfl) (by simp) (AllReadyIn.cons rfl (fun K hK => ?_) (AllReadyIn.cons rfl (fun K hK => ?_) (AllReadyIn.nil)))
    · go_simp; exact hK _ _ (U _ _ _ _ (H4 W acc p5 v5 h5))
    · go_simp; exact hK _ _ (U _ _ _ _ (H9 (W.alloc (.cells #[.int .u64 0,.slice none 0 0] 25)) (acc.alloc acc.size _) p5 (v5.alloc _) h5 W.heap.size (Var.new W _ _ _ _ _ rfl) acc.size (Nat.ne_of_lt v5.lt)))
  have H11 : ∀ (W : World) (acc : Bx W3 W) (p6 : Nat) (v6 : Vx W p6 0) (h6 : W3.heap.size ≤ p6),R 5 #[Ix,Ix,Ix,Ix,Ix,Ix,Ix,Ix,Ix,Ix,Ix,Ix,Ix,Ix,Ox,Ox,Ix,Ox,Ox,Ox] { tmps := #[ρ e,u,ρ s,ρ lb,V15,u,ρ p6,u,V8,ρ e,V10,V11,V12,V8,V14,V15,V15,u,u,u,u,u,u,u,u,u,u,u,u,u,u,u,u,u,u,u,u,u,u,.tuple #[ν 2,ν 0,.bool true],ρ e,ρ e,ρ e,ς ga 1 ca,ν 4,ρ e,ρ e,.pointer (some ⟨e,1,none⟩),ς gb 1 cb,ν 2,.tuple #[ν 2,ν 0,.bool true],ν 2,ν 0,u,u,u,u,u,u,u,u,u,u,u,u,u,u,u,u,u,u,u,u,u],defers := [] } W := by
    intro W acc p6 v6 h6
    rw [← hR]
    dsimp only [ρ,ς,ν]
    refine wpAnyIn_ready (rs := [14,15]) (by kernel_rfl) (by simp) (AllReadyIn.cons rfl (fun K hK => ?_) (AllReadyIn.cons rfl (fun K hK => ?_) (AllReadyIn.nil)))
    · go_simp; exact hK _ _ (U _ _ _ _ (H5 W acc p6 v6 h6))
    · go_simp; exact hK _ _ (U _ _ _ _ (H9 (W.alloc (.cells #[.int .u64 0,.slice none 0 0] 25)) (acc.alloc acc.size _) W.heap.size (Var.new W _ _ _ _ _ rfl) acc.size p6 (v6.alloc _) h6 (Nat.ne_of_gt v6.lt)))
  have H12 : ∀ (W : World) (acc : Bx W3 W),R 6 #[Ix,Ix,Ix,Ix,Ix,Ix,Ix,Ix,Ix,Ix,Ix,Ix,Ix,Ix,Ox,Ox,Ox,Ox,Ox,Ox] { tmps := #[ρ e,u,ρ s,ρ lb,V15,u,u,u,V8,ρ e,V10,V11,V12,V8,V14,V15,V15,u,u,u,u,u,u,u,u,u,u,u,u,u,u,u,u,u,u,u,u,u,u,.tuple #[ν 2,ν 0,.bool true],ρ e,ρ e,ρ e,ς ga 1 ca,ν 4,ρ e,ρ e,.pointer (some ⟨e,1,none⟩),ς gb 1 cb,ν 2,.tuple #[ν 2,ν 0,.bool true],ν 2,ν 0,u,u,u,u,u,u,u,u,u,u,u,u,u,u,u,u,u,u,u,u,u],defers := [] } W := by
    intro W acc
    rw [← hR]
    dsimp only [ρ,ς,ν]
    refine wpAnyIn_ready (rs := [14,15,16]) (by kernel_rfl) (by simp) (AllReadyIn.cons rfl (fun K hK => ?_) (AllReadyIn.cons rfl (fun K hK => ?_) (AllReadyIn.cons rfl (fun K hK => ?_) (AllReadyIn.nil))))
    · go_simp; exact hK _ _ (U _ _ _ _ (H6 W acc))
    · go_simp; exact hK _ _ (U _ _ _ _ (H10 (W.alloc (.cells #[.int .u64 0,.slice none 0 0] 25)) (acc.alloc acc.size _) W.heap.size (Var.new W _ _ _ _ _ rfl) acc.size))
    · go_simp; exact hK _ _ (U _ _ _ _ (H11 (W.alloc (.cells #[.int .u64 0,.slice none 0 0] 25)) (acc.alloc acc.size _) W.heap.size (Var.new W _ _ _ _ _ rfl) acc.size))
  have H13 : ∀ (W : World) (acc : Bx W3 W) (p5 : Nat) (v5 : Vx W p5 2) (h5 : W3.heap.size ≤ p5) (p6 : Nat) (v6 : Vx W p6 0) (h6 : W3.heap.size ≤ p6) (n56 : p5 ≠ p6),R 3 #[Ix,Ix,Ix,Ix,Ix,Ix,Ix,Ix,Ix,Ix,Ix,Ix,Ix,Ox,Ix,Ix,Ix,Ix,Ox,Ox] { tmps := #[ρ e,u,ρ s,ρ lb,V15,ρ p5,ρ p6,u,V8,ρ e,V10,V11,V12,V8,V14,V15,V15,u,u,u,u,u,u,u,u,u,u,u,u,u,u,u,u,u,u,u,u,u,u,.tuple #[ν 2,ν 0,.bool true],ρ e,ρ e,ρ e,ς ga 1 ca,ν 4,ρ e,ρ e,.pointer (some ⟨e,1,none⟩),ς gb 1 cb,ν 2,.tuple #[ν 2,ν 0,.bool true],ν 2,u,.bool true,u,u,u,u,u,u,u,u,u,u,u,u,u,u,u,u,u,u,u,u],defers := [] } W := by
    intro W acc p5 v5 h5 p6 v6 h6 n56
    rw [← hR]
    dsimp only [ρ,ς,ν]
    have g0 := v5.c0
    have g1 := v5.c1
    have i0 := v5.free 0
    have i1 := v5.free 1
    have k0 := v6.c0
    have k1 := v6.c1
    have l0 := v6.free 0
    have l1 := v6.free 1
    refine wpAnyIn_ready (rs := [13]) (by kernel_rfl) (by simp) (AllReadyIn.cons rfl (fun K hK => ?_) (AllReadyIn.nil))
    · go_simp; exact hK _ _ (U _ _ _ _ (H2 W acc p5 v5 h5 p6 v6 h6 n56))
  have H14 : ∀ (W : World) (acc : Bx W3 W) (p5 : Nat) (v5 : Vx W p5 0) (h5 : W3.heap.size ≤ p5) (p6 : Nat) (v6 : Vx W p6 0) (h6 : W3.heap.size ≤ p6) (n56 : p5 ≠ p6),R 4 #[Ix,Ix,Ix,Ix,Ix,Ix,Ix,Ix,Ix,Ix,Ix,Ix,Ix,Ox,Ix,Ix,Ix,Ox,Ox,Ox] { tmps := #[ρ e,u,ρ s,ρ lb,V15,ρ p5,ρ p6,u,V8,ρ e,V10,V11,V12,V8,V14,V15,V15,u,u,u,u,u,u,u,u,u,u,u,u,u,u,u,u,u,u,u,u,u,u,.tuple #[ν 2,ν 0,.bool true],ρ e,ρ e,ρ e,ς ga 1 ca,ν 4,ρ e,ρ e,.pointer (some ⟨e,1,none⟩),ς gb 1 cb,ν 2,.tuple #[ν 2,ν 0,.bool true],ν 2,u,.bool true,u,u,u,u,u,u,u,u,u,u,u,u,u,u,u,u,u,u,u,u],defers := [] } W := by
    intro W acc p5 v5 h5 p6 v6 h6 n56
    rw [← hR]
    dsimp only [ρ,ς,ν]
    have g0 := v5.c0
    have g1 := v5.c1
    have i0 := v5.free 0
    have i1 := v5.free 1
    have k0 := v6.c0
    have k1 := v6.c1
    have l0 := v6.free 0
    have l1 := v6.free 1
    refine wpAnyIn_ready (rs := [13,17]) (by kernel_rfl) (by simp) (AllReadyIn.cons rfl (fun K hK => ?_) (AllReadyIn.cons rfl (fun K hK => ?_) (AllReadyIn.nil)))
    · go_simp; exact hK _ _ (U _ _ _ _ (H3 W acc p5 v5 h5 p6 v6 h6 n56))
    · go_simp; exact hK _ _ (U _ _ _ _ (H13 ((W.setCell ⟨p5,0,none⟩ (.int .u64 2)).setCell ⟨p5,1,none⟩ (.slice none 0 0)) (below_two acc h5 _ _) p5 (v5.set _ _ _ _) h5 p6 ((v6.other (Ne.symm n56) _).other (Ne.symm n56) _) h6 n56))
  have H15 : ∀ (W : World) (acc : Bx W3 W) (p5 : Nat) (v5 : Vx W p5 0) (h5 : W3.heap.size ≤ p5),R 5 #[Ix,Ix,Ix,Ix,Ix,Ix,Ix,Ix,Ix,Ix,Ix,Ix,Ix,Ox,Ix,Ix,Ox,Ox,Ox,Ox] { tmps := #[ρ e,u,ρ s,ρ lb,V15,ρ p5,u,u,V8,ρ e,V10,V11,V12,V8,V14,V15,V15,u,u,u,u,u,u,u,u,u,u,u,u,u,u,u,u,u,u,u,u,u,u,.tuple #[ν 2,ν 0,.bool true],ρ e,ρ e,ρ e,ς ga 1 ca,ν 4,ρ e,ρ e,.pointer (some ⟨e,1,none⟩),ς gb 1 cb,ν 2,.tuple #[ν 2,ν 0,.bool true],ν 2,u,.bool true,u,u,u,u,u,u,u,u,u,u,u,u,u,u,u,u,u,u,u,u],defers := [] } W := by
    intro W acc p5 v5 h5
    rw [← hR]
    dsimp only [ρ,ς,ν]
    refine wpAnyIn_ready (rs := [13,16]) (by kernel_rfl) (by simp) (AllReadyIn.cons rfl (fun K hK => ?_) (AllReadyIn.cons rfl (fun K hK => ?_) (AllReadyIn.nil)))
    · go_simp; exact hK _ _ (U _ _ _ _ (H4 W acc p5 v5 h5))
    · go_simp; exact hK _ _ (U _ _ _ _ (H14 (W.alloc (.cells #[.int .u64 0,.slice none 0 0] 25)) (acc.alloc acc.size _) p5 (v5.alloc _) h5 W.heap.size (Var.new W _ _ _ _ _ rfl) acc.size (Nat.ne_of_lt v5.lt)))
  have H16 : ∀ (W : World) (acc : Bx W3 W) (p6 : Nat) (v6 : Vx W p6 0) (h6 : W3.heap.size ≤ p6),R 5 #[Ix,Ix,Ix,Ix,Ix,Ix,Ix,Ix,Ix,Ix,Ix,Ix,Ix,Ox,Ix,Ox,Ix,Ox,Ox,Ox] { tmps := #[ρ e,u,ρ s,ρ lb,V15,u,ρ p6,u,V8,ρ e,V10,V11,V12,V8,V14,V15,V15,u,u,u,u,u,u,u,u,u,u,u,u,u,u,u,u,u,u,u,u,u,u,.tuple #[ν 2,ν 0,.bool true],ρ e,ρ e,ρ e,ς ga 1 ca,ν 4,ρ e,ρ e,.pointer (some ⟨e,1,none⟩),ς gb 1 cb,ν 2,.tuple #[ν 2,ν 0,.bool true],ν 2,u,.bool true,u,u,u,u,u,u,u,u,u,u,u,u,u,u,u,u,u,u,u,u],defers := [] } W := by
    intro W acc p6 v6 h6
    rw [← hR]
    dsimp only [ρ,ς,ν]
    refine wpAnyIn_ready (rs := [13,15]) (by kernel_rfl) (by simp) (AllReadyIn.cons rfl (fun K hK => ?_) (AllReadyIn.cons rfl (fun K hK => ?_) (AllReadyIn.nil)))
    · go_simp; exact hK _ _ (U _ _ _ _ (H5 W acc p6 v6 h6))
    · go_simp; exact hK _ _ (U _ _ _ _ (H14 (W.alloc (.cells #[.int .u64 0,.slice none 0 0] 25)) (acc.alloc acc.size _) W.heap.size (Var.new W _ _ _ _ _ rfl) acc.size p6 (v6.alloc _) h6 (Nat.ne_of_gt v6.lt)))
  have H17 : ∀ (W : World) (acc : Bx W3 W),R 6 #[Ix,Ix,Ix,Ix,Ix,Ix,Ix,Ix,Ix,Ix,Ix,Ix,Ix,Ox,Ix,Ox,Ox,Ox,Ox,Ox] { tmps := #[ρ e,u,ρ s,ρ lb,V15,u,u,u,V8,ρ e,V10,V11,V12,V8,V14,V15,V15,u,u,u,u,u,u,u,u,u,u,u,u,u,u,u,u,u,u,u,u,u,u,.tuple #[ν 2,ν 0,.bool true],ρ e,ρ e,ρ e,ς ga 1 ca,ν 4,ρ e,ρ e,.pointer (some ⟨e,1,none⟩),ς gb 1 cb,ν 2,.tuple #[ν 2,ν 0,.bool true],ν 2,u,.bool true,u,u,u,u,u,u,u,u,u,u,u,u,u,u,u,u,u,u,u,u],defers := [] } W := by
    intro W acc
    rw [← hR]
    dsimp only [ρ,ς,ν]
    refine wpAnyIn_ready (rs := [13,15,16]) (by kernel_rfl) (by simp) (AllReadyIn.cons rfl (fun K hK => ?_) (AllReadyIn.cons rfl (fun K hK => ?_) (AllReadyIn.cons rfl (fun K hK => ?_) (AllReadyIn.nil))))
    · go_simp; exact hK _ _ (U _ _ _ _ (H6 W acc))
    · go_simp; exact hK _ _ (U _ _ _ _ (H15 (W.alloc (.cells #[.int .u64 0,.slice none 0 0] 25)) (acc.alloc acc.size _) W.heap.size (Var.new W _ _ _ _ _ rfl) acc.size))
    · go_simp; exact hK _ _ (U _ _ _ _ (H16 (W.alloc (.cells #[.int .u64 0,.slice none 0 0] 25)) (acc.alloc acc.size _) W.heap.size (Var.new W _ _ _ _ _ rfl) acc.size))
  have H18 : ∀ (W : World) (acc : Bx W3 W) (p5 : Nat) (v5 : Vx W p5 2) (h5 : W3.heap.size ≤ p5) (p6 : Nat) (v6 : Vx W p6 0) (h6 : W3.heap.size ≤ p6) (n56 : p5 ≠ p6),R 4 #[Ix,Ix,Ix,Ix,Ix,Ix,Ix,Ix,Ix,Ix,Ix,Ix,Ix,Ox,Ox,Ix,Ix,Ix,Ox,Ox] { tmps := #[ρ e,u,ρ s,ρ lb,V15,ρ p5,ρ p6,u,V8,ρ e,V10,V11,V12,V8,V14,V15,V15,u,u,u,u,u,u,u,u,u,u,u,u,u,u,u,u,u,u,u,u,u,u,.tuple #[ν 2,ν 0,.bool true],ρ e,ρ e,ρ e,ς ga 1 ca,ν 4,ρ e,ρ e,.pointer (some ⟨e,1,none⟩),ς gb 1 cb,ν 2,.tuple #[ν 2,ν 0,.bool true],ν 2,u,u,u,u,u,u,u,u,u,u,u,u,u,u,u,u,u,u,u,u,u,u],defers := [] } W := by
    intro W acc p5 v5 h5 p6 v6 h6 n56
    rw [← hR]
    dsimp only [ρ,ς,ν]
    have g0 := v5.c0
    have g1 := v5.c1
    have i0 := v5.free 0
    have i1 := v5.free 1
    have k0 := v6.c0
    have k1 := v6.c1
    have l0 := v6.free 0
    have l1 := v6.free 1
    refine wpAnyIn_ready (rs := [13,14]) (by kernel_rfl) (by simp) (AllReadyIn.cons rfl (fun K hK => ?_) (AllReadyIn.cons rfl (fun K hK => ?_) (AllReadyIn.nil)))
    · go_simp; exact hK _ _ (U _ _ _ _ (H8 W acc p5 v5 h5 p6 v6 h6 n56))
    · go_simp; exact hK _ _ (U _ _ _ _ (H13 W acc p5 v5 h5 p6 v6 h6 n56))
  have H19 : ∀ (W : World) (acc : Bx W3 W) (p5 : Nat) (v5 : Vx W p5 0) (h5 : W3.heap.size ≤ p5) (p6 : Nat) (v6 : Vx W p6 0) (h6 : W3.heap.size ≤ p6) (n56 : p5 ≠ p6),R 5 #[Ix,Ix,Ix,Ix,Ix,Ix,Ix,Ix,Ix,Ix,Ix,Ix,Ix,Ox,Ox,Ix,Ix,Ox,Ox,Ox] { tmps := #[ρ e,u,ρ s,ρ lb,V15,ρ p5,ρ p6,u,V8,ρ e,V10,V11,V12,V8,V14,V15,V15,u,u,u,u,u,u,u,u,u,u,u,u,u,u,u,u,u,u,u,u,u,u,.tuple #[ν 2,ν 0,.bool true],ρ e,ρ e,ρ e,ς ga 1 ca,ν 4,ρ e,ρ e,.pointer (some ⟨e,1,none⟩),ς gb 1 cb,ν 2,.tuple #[ν 2,ν 0,.bool true],ν 2,u,u,u,u,u,u,u,u,u,u,u,u,u,u,u,u,u,u,u,u,u,u],defers := [] } W := by
    intro W acc p5 v5 h5 p6 v6 h6 n56
    rw [← hR]
    dsimp only [ρ,ς,ν]
    have g0 := v5.c0
    have g1 := v5.c1
    have i0 := v5.free 0
    have i1 := v5.free 1
    have k0 := v6.c0
    have k1 := v6.c1
    have l0 := v6.free 0
    have l1 := v6.free 1
    refine wpAnyIn_ready (rs := [13,14,17]) (by kernel_rfl) (by simp) (AllReadyIn.cons rfl (fun K hK => ?_) (AllReadyIn.cons rfl (fun K hK => ?_) (AllReadyIn.cons rfl (fun K hK => ?_) (AllReadyIn.nil))))
    · go_simp; exact hK _ _ (U _ _ _ _ (H9 W acc p5 v5 h5 p6 v6 h6 n56))
    · go_simp; exact hK _ _ (U _ _ _ _ (H14 W acc p5 v5 h5 p6 v6 h6 n56))
    · go_simp; exact hK _ _ (U _ _ _ _ (H18 ((W.setCell ⟨p5,0,none⟩ (.int .u64 2)).setCell ⟨p5,1,none⟩ (.slice none 0 0)) (below_two acc h5 _ _) p5 (v5.set _ _ _ _) h5 p6 ((v6.other (Ne.symm n56) _).other (Ne.symm n56) _) h6 n56))
  have H20 : ∀ (W : World) (acc : Bx W3 W) (p5 : Nat) (v5 : Vx W p5 0) (h5 : W3.heap.size ≤ p5),R 6 #[Ix,Ix,Ix,Ix,Ix,Ix,Ix,Ix,Ix,Ix,Ix,Ix,Ix,Ox,Ox,Ix,Ox,Ox,Ox,Ox] { tmps := #[ρ e,u,ρ s,ρ lb,V15,ρ p5,u,u,V8,ρ e,V10,V11,V12,V8,V14,V15,V15,u,u,u,u,u,u,u,u,u,u,u,u,u,u,u,u,u,u,u,u,u,u,.tuple #[ν 2,ν 0,.bool true],ρ e,ρ e,ρ e,ς ga 1 ca,ν 4,ρ e,ρ e,.pointer (some ⟨e,1,none⟩),ς gb 1 cb,ν 2,.tuple #[ν 2,ν 0,.bool true],ν 2,u,u,u,u,u,u,u,u,u,u,u,u,u,u,u,u,u,u,u,u,u,u],defers := [] } W := by
    intro W acc p5 v5 h5
    rw [← hR]
    dsimp only [ρ,ς,ν]
    refine wpAnyIn_ready (rs := [13,14,16]) (by kernel_rfl) (by simp) (AllReadyIn.cons rfl (fun K hK => ?_) (AllReadyIn.cons rfl (fun K hK => ?_) (AllReadyIn.cons rfl (fun K hK => ?_) (AllReadyIn.nil))))
    · go_simp; exact hK _ _ (U _ _ _ _ (H10 W acc p5 v5 h5))
    · go_simp; exact hK _ _ (U _ _ _ _ (H15 W acc p5 v5 h5))
    · go_simp; exact hK _ _ (U _ _ _ _ (H19 (W.alloc (.cells #[.int .u64 0,.slice none 0 0] 25)) (acc.alloc acc.size _) p5 (v5.alloc _) h5 W.heap.size (Var.new W _ _ _ _ _ rfl) acc.size (Nat.ne_of_lt v5.lt)))
  have H21 : ∀ (W : World) (acc : Bx W3 W) (p6 : Nat) (v6 : Vx W p6 0) (h6 : W3.heap.size ≤ p6),R 6 #[Ix,Ix,Ix,Ix,Ix,Ix,Ix,Ix,Ix,Ix,Ix,Ix,Ix,Ox,Ox,Ox,Ix,Ox,Ox,Ox] { tmps := #[ρ e,u,ρ s,ρ lb,V15,u,ρ p6,u,V8,ρ e,V10,V11,V12,V8,V14,V15,V15,u,u,u,u,u,u,u,u,u,u,u,u,u,u,u,u,u,u,u,u,u,u,.tuple #[ν 2,ν 0,.bool true],ρ e,ρ e,ρ e,ς ga 1 ca,ν 4,ρ e,ρ e,.pointer (some ⟨e,1,none⟩),ς gb 1 cb,ν 2,.tuple #[ν 2,ν 0,.bool true],ν 2,u,u,u,u,u,u,u,u,u,u,u,u,u,u,u,u,u,u,u,u,u,u],defers := [] } W := by
    intro W acc p6 v6 h6
    rw [← hR]
    dsimp only [ρ,ς,ν]
    refine wpAnyIn_ready (rs := [13,14,15]) (by kernel_rfl) (by simp) (AllReadyIn.cons rfl (fun K hK => ?_) (AllReadyIn.cons rfl (fun K hK => ?_) (AllReadyIn.cons rfl (fun K hK => ?_) (AllReadyIn.nil))))
    · go_simp; exact hK _ _ (U _ _ _ _ (H11 W acc p6 v6 h6))
    · go_simp; exact hK _ _ (U _ _ _ _ (H16 W acc p6 v6 h6))
    · go_simp; exact hK _ _ (U _ _ _ _ (H19 (W.alloc (.cells #[.int .u64 0,.slice none 0 0] 25)) (acc.alloc acc.size _) W.heap.size (Var.new W _ _ _ _ _ rfl) acc.size p6 (v6.alloc _) h6 (Nat.ne_of_gt v6.lt)))
  have H22 : ∀ (W : World) (acc : Bx W3 W),R 7 #[Ix,Ix,Ix,Ix,Ix,Ix,Ix,Ix,Ix,Ix,Ix,Ix,Ix,Ox,Ox,Ox,Ox,Ox,Ox,Ox] { tmps := #[ρ e,u,ρ s,ρ lb,V15,u,u,u,V8,ρ e,V10,V11,V12,V8,V14,V15,V15,u,u,u,u,u,u,u,u,u,u,u,u,u,u,u,u,u,u,u,u,u,u,.tuple #[ν 2,ν 0,.bool true],ρ e,ρ e,ρ e,ς ga 1 ca,ν 4,ρ e,ρ e,.pointer (some ⟨e,1,none⟩),ς gb 1 cb,ν 2,.tuple #[ν 2,ν 0,.bool true],ν 2,u,u,u,u,u,u,u,u,u,u,u,u,u,u,u,u,u,u,u,u,u,u],defers := [] } W := by
    intro W acc
    rw [← hR]
    dsimp only [ρ,ς,ν]
    refine wpAnyIn_ready (rs := [13,14,15,16]) (by kernel_rfl) (by simp) (AllReadyIn.cons rfl (fun K hK => ?_) (AllReadyIn.cons rfl (fun K hK => ?_) (AllReadyIn.cons rfl (fun K hK => ?_) (AllReadyIn.cons rfl (fun K hK => ?_) (AllReadyIn.nil)))))
    · go_simp; exact hK _ _ (U _ _ _ _ (H12 W acc))
    · go_simp; exact hK _ _ (U _ _ _ _ (H17 W acc))
    · go_simp; exact hK _ _ (U _ _ _ _ (H20 (W.alloc (.cells #[.int .u64 0,.slice none 0 0] 25)) (acc.alloc acc.size _) W.heap.size (Var.new W _ _ _ _ _ rfl) acc.size))
    · go_simp; exact hK _ _ (U _ _ _ _ (H21 (W.alloc (.cells #[.int .u64 0,.slice none 0 0] 25)) (acc.alloc acc.size _) W.heap.size (Var.new W _ _ _ _ _ rfl) acc.size))
  have H23 : ∀ (W : World) (acc : Bx W3 W) (p5 : Nat) (v5 : Vx W p5 0) (h5 : W3.heap.size ≤ p5) (p6 : Nat) (v6 : Vx W p6 0) (h6 : W3.heap.size ≤ p6) (n56 : p5 ≠ p6),R 4 #[Ix,Ix,Ix,Ix,Ix,Ix,Ix,Ix,Ix,Ix,Ix,Ix,Ox,Ix,Ix,Ix,Ix,Ox,Ox,Ox] { tmps := #[ρ e,u,ρ s,ρ lb,V15,ρ p5,ρ p6,u,V8,ρ e,V10,V11,V12,V8,V14,V15,V15,u,u,u,u,u,u,u,u,u,u,u,u,u,u,u,u,u,u,u,u,u,u,.tuple #[ν 2,ν 0,.bool true],ρ e,ρ e,ρ e,ς ga 1 ca,ν 4,ρ e,ρ e,.pointer (some ⟨e,1,none⟩),ς gb 1 cb,ν 2,.tuple #[ν 2,ν 0,.bool true],u,ν 0,.bool true,u,u,u,u,u,u,u,u,u,u,u,u,u,u,u,u,u,u,u,u],defers := [] } W := by
    intro W acc p5 v5 h5 p6 v6 h6 n56
    rw [← hR]
    dsimp only [ρ,ς,ν]
    refine wpAnyIn_ready (rs := [12]) (by kernel_rfl) (by simp) (AllReadyIn.cons rfl (fun K hK => ?_) (AllReadyIn.nil))
    · go_simp; exact hK _ _ (U _ _ _ _ (H3 W acc p5 v5 h5 p6 v6 h6 n56))
  have H24 : ∀ (W : World) (acc : Bx W3 W) (p5 : Nat) (v5 : Vx W p5 0) (h5 : W3.heap.size ≤ p5),R 5 #[Ix,Ix,Ix,Ix,Ix,Ix,Ix,Ix,Ix,Ix,Ix,Ix,Ox,Ix,Ix,Ix,Ox,Ox,Ox,Ox] { tmps := #[ρ e,u,ρ s,ρ lb,V15,ρ p5,u,u,V8,ρ e,V10,V11,V12,V8,V14,V15,V15,u,u,u,u,u,u,u,u,u,u,u,u,u,u,u,u,u,u,u,u,u,u,.tuple #[ν 2,ν 0,.bool true],ρ e,ρ e,ρ e,ς ga 1 ca,ν 4,ρ e,ρ e,.pointer (some ⟨e,1,none⟩),ς gb 1 cb,ν 2,.tuple #[ν 2,ν 0,.bool true],u,ν 0,.bool true,u,u,u,u,u,u,u,u,u,u,u,u,u,u,u,u,u,u,u,u],defers := [] } W := by
    intro W acc p5 v5 h5
    rw [← hR]
    dsimp only [ρ,ς,ν]
    refine wpAnyIn_ready (rs := [12,16]) (by kernel_rfl) (by simp) (AllReadyIn.cons rfl (fun K hK => ?_) (AllReadyIn.cons rfl (fun K hK => ?_) (AllReadyIn.nil)))
    · go_simp; exact hK _ _ (U _ _ _ _ (H4 W acc p5 v5 h5))
    · go_simp; exact hK _ _ (U _ _ _ _ (H23 (W.alloc (.cells #[.int .u64 0,.slice none 0 0] 25)) (acc.alloc acc.size _) p5 (v5.alloc _) h5 W.heap.size (Var.new W _ _ _ _ _ rfl) acc.size (Nat.ne_of_lt v5.lt)))
  have H25 : ∀ (W : World) (acc : Bx W3 W) (p6 : Nat) (v6 : Vx W p6 0) (h6 : W3.heap.size ≤ p6),R 5 #[Ix,Ix,Ix,Ix,Ix,Ix,Ix,Ix,Ix,Ix,Ix,Ix,Ox,Ix,Ix,Ox,Ix,Ox,Ox,Ox] { tmps := #[ρ e,u,ρ s,ρ lb,V15,u,ρ p6,u,V8,ρ e,V10,V11,V12,V8,V14,V15,V15,u,u,u,u,u,u,u,u,u,u,u,u,u,u,u,u,u,u,u,u,u,u,.tuple #[ν 2,ν 0,.bool true],ρ e,ρ e,ρ e,ς ga 1 ca,ν 4,ρ e,ρ e,.pointer (some ⟨e,1,none⟩),ς gb 1 cb,ν 2,.tuple #[ν 2,ν 0,.bool true],u,ν 0,.bool true,u,u,u,u,u,u,u,u,u,u,u,u,u,u,u,u,u,u,u,u],defers := [] } W := by
    intro W acc p6 v6 h6
    rw [← hR]
    dsimp only [ρ,ς,ν]
    refine wpAnyIn_ready (rs := [12,15]) (by kernel_rfl) (by simp) (AllReadyIn.cons rfl (fun K hK => ?_) (AllReadyIn.cons rfl (fun K hK => ?_) (AllReadyIn.nil)))
    · go_simp; exact hK _ _ (U _ _ _ _ (H5 W acc p6 v6 h6))
    · go_simp; exact hK _ _ (U _ _ _ _ (H23 (W.alloc (.cells #[.int .u64 0,.slice none 0 0] 25)) (acc.alloc acc.size _) W.heap.size (Var.new W _ _ _ _ _ rfl) acc.size p6 (v6.alloc _) h6 (Nat.ne_of_gt v6.lt)))
  have H26 : ∀ (W : World) (acc : Bx W3 W),R 6 #[Ix,Ix,Ix,Ix,Ix,Ix,Ix,Ix,Ix,Ix,Ix,Ix,Ox,Ix,Ix,Ox,Ox,Ox,Ox,Ox] { tmps := #[ρ e,u,ρ s,ρ lb,V15,u,u,u,V8,ρ e,V10,V11,V12,V8,V14,V15,V15,u,u,u,u,u,u,u,u,u,u,u,u,u,u,u,u,u,u,u,u,u,u,.tuple #[ν 2,ν 0,.bool true],ρ e,ρ e,ρ e,ς ga 1 ca,ν 4,ρ e,ρ e,.pointer (some ⟨e,1,none⟩),ς gb 1 cb,ν 2,.tuple #[ν 2,ν 0,.bool true],u,ν 0,.bool true,u,u,u,u,u,u,u,u,u,u,u,u,u,u,u,u,u,u,u,u],defers := [] } W := by
    intro W acc
    rw [← hR]
    dsimp only [ρ,ς,ν]
    refine wpAnyIn_ready (rs := [12,15,16]) (by kernel_rfl) (by simp) (AllReadyIn.cons rfl (fun K hK => ?_) (AllReadyIn.cons rfl (fun K hK => ?_) (AllReadyIn.cons rfl (fun K hK => ?_) (AllReadyIn.nil))))
    · go_simp; exact hK _ _ (U _ _ _ _ (H6 W acc))
    · go_simp; exact hK _ _ (U _ _ _ _ (H24 (W.alloc (.cells #[.int .u64 0,.slice none 0 0] 25)) (acc.alloc acc.size _) W.heap.size (Var.new W _ _ _ _ _ rfl) acc.size))
    · go_simp; exact hK _ _ (U _ _ _ _ (H25 (W.alloc (.cells #[.int .u64 0,.slice none 0 0] 25)) (acc.alloc acc.size _) W.heap.size (Var.new W _ _ _ _ _ rfl) acc.size))
  have H27 : ∀ (W : World) (acc : Bx W3 W) (p5 : Nat) (v5 : Vx W p5 0) (h5 : W3.heap.size ≤ p5) (p6 : Nat) (v6 : Vx W p6 0) (h6 : W3.heap.size ≤ p6) (n56 : p5 ≠ p6),R 5 #[Ix,Ix,Ix,Ix,Ix,Ix,Ix,Ix,Ix,Ix,Ix,Ix,Ox,Ix,Ox,Ix,Ix,Ox,Ox,Ox] { tmps := #[ρ e,u,ρ s,ρ lb,V15,ρ p5,ρ p6,u,V8,ρ e,V10,V11,V12,V8,V14,V15,V15,u,u,u,u,u,u,u,u,u,u,u,u,u,u,u,u,u,u,u,u,u,u,.tuple #[ν 2,ν 0,.bool true],ρ e,ρ e,ρ e,ς ga 1 ca,ν 4,ρ e,ρ e,.pointer (some ⟨e,1,none⟩),ς gb 1 cb,ν 2,.tuple #[ν 2,ν 0,.bool true],u,ν 0,u,u,u,u,u,u,u,u,u,u,u,u,u,u,u,u,u,u,u,u,u],defers := [] } W := by
    intro W acc p5 v5 h5 p6 v6 h6 n56
    rw [← hR]
    dsimp only [ρ,ς,ν]
    refine wpAnyIn_ready (rs := [12,14]) (by kernel_rfl) (by simp) (AllReadyIn.cons rfl (fun K hK => ?_) (AllReadyIn.cons rfl (fun K hK => ?_) (AllReadyIn.nil)))
    · go_simp; exact hK _ _ (U _ _ _ _ (H9 W acc p5 v5 h5 p6 v6 h6 n56))
    · go_simp; exact hK _ _ (U _ _ _ _ (H23 W acc p5 v5 h5 p6 v6 h6 n56))
  have H28 : ∀ (W : World) (acc : Bx W3 W) (p5 : Nat) (v5 : Vx W p5 0) (h5 : W3.heap.size ≤ p5),R 6 #[Ix,Ix,Ix,Ix,Ix,Ix,Ix,Ix,Ix,Ix,Ix,Ix,Ox,Ix,Ox,Ix,Ox,Ox,Ox,Ox] { tmps := #[ρ e,u,ρ s,ρ lb,V15,ρ p5,u,u,V8,ρ e,V10,V11,V12,V8,V14,V15,V15,u,u,u,u,u,u,u,u,u,u,u,u,u,u,u,u,u,u,u,u,u,u,.tuple #[ν 2,ν 0,.bool true],ρ e,ρ e,ρ e,ς ga 1 ca,ν 4,ρ e,ρ e,.pointer (some ⟨e,1,none⟩),ς gb 1 cb,ν 2,.tuple #[ν 2,ν 0,.bool true],u,ν 0,u,u,u,u,u,u,u,u,u,u,u,u,u,u,u,u,u,u,u,u,u],defers := [] } W := by
    intro W acc p5 v5 h5
    rw [← hR]
    dsimp only [ρ,ς,ν]
    refine wpAnyIn_ready (rs := [12,14,16]) (by kernel_rfl) (by simp) (AllReadyIn.cons rfl (fun K hK => ?_) (AllReadyIn.cons rfl (fun K hK => ?_) (AllReadyIn.cons rfl (fun K hK => ?_) (AllReadyIn.nil))))
    · go_simp; exact hK _ _ (U _ _ _ _ (H10 W acc p5 v5 h5))
    · go_simp; exact hK _ _ (U _ _ _ _ (H24 W acc p5 v5 h5))
    · go_simp; exact hK _ _ (U _ _ _ _ (H27 (W.alloc (.cells #[.int .u64 0,.slice none 0 0] 25)) (acc.alloc acc.size _) p5 (v5.alloc _) h5 W.heap.size (Var.new W _ _ _ _ _ rfl) acc.size (Nat.ne_of_lt v5.lt)))
  have H29 : ∀ (W : World) (acc : Bx W3 W) (p6 : Nat) (v6 : Vx W p6 0) (h6 : W3.heap.size ≤ p6),R 6 #[Ix,Ix,Ix,Ix,Ix,Ix,Ix,Ix,Ix,Ix,Ix,Ix,Ox,Ix,Ox,Ox,Ix,Ox,Ox,Ox] { tmps := #[ρ e,u,ρ s,ρ lb,V15,u,ρ p6,u,V8,ρ e,V10,V11,V12,V8,V14,V15,V15,u,u,u,u,u,u,u,u,u,u,u,u,u,u,u,u,u,u,u,u,u,u,.tuple #[ν 2,ν 0,.bool true],ρ e,ρ e,ρ e,ς ga 1 ca,ν 4,ρ e,ρ e,.pointer (some ⟨e,1,none⟩),ς gb 1 cb,ν 2,.tuple #[ν 2,ν 0,.bool true],u,ν 0,u,u,u,u,u,u,u,u,u,u,u,u,u,u,u,u,u,u,u,u,u],defers := [] } W := by
    intro W acc p6 v6 h6
    rw [← hR]
    dsimp only [ρ,ς,ν]
    refine wpAnyIn_ready (rs := [12,14,15]) (by kernel_rfl) (by simp) (AllReadyIn.cons rfl (fun K hK => ?_) (AllReadyIn.cons rfl (fun K hK => ?_) (AllReadyIn.cons rfl (fun K hK => ?_) (AllReadyIn.nil))))
    · go_simp; exact hK _ _ (U _ _ _ _ (H11 W acc p6 v6 h6))
    · go_simp; exact hK _ _ (U _ _ _ _ (H25 W acc p6 v6 h6))
    · go_simp; exact hK _ _ (U _ _ _ _ (H27 (W.alloc (.cells #[.int .u64 0,.slice none 0 0] 25)) (acc.alloc acc.size _) W.heap.size (Var.new W _ _ _ _ _ rfl) acc.size p6 (v6.alloc _) h6 (Nat.ne_of_gt v6.lt)))
  have H30 : ∀ (W : World) (acc : Bx W3 W),R 7 #[Ix,Ix,Ix,Ix,Ix,Ix,Ix,Ix,Ix,Ix,Ix,Ix,Ox,Ix,Ox,Ox,Ox,Ox,Ox,Ox] { tmps := #[ρ e,u,ρ s,ρ lb,V15,u,u,u,V8,ρ e,V10,V11,V12,V8,V14,V15,V15,u,u,u,u,u,u,u,u,u,u,u,u,u,u,u,u,u,u,u,u,u,u,.tuple #[ν 2,ν 0,.bool true],ρ e,ρ e,ρ e,ς ga 1 ca,ν 4,ρ e,ρ e,.pointer (some ⟨e,1,none⟩),ς gb 1 cb,ν 2,.tuple #[ν 2,ν 0,.bool true],u,ν 0,u,u,u,u,u,u,u,u,u,u,u,u,u,u,u,u,u,u,u,u,u],defers := [] } W := by
    intro W acc
    rw [← hR]
    dsimp only [ρ,ς,ν]
    refine wpAnyIn_ready (rs := [12,14,15,16]) (by kernel_rfl) (by simp) (AllReadyIn.cons rfl (fun K hK => ?_) (AllReadyIn.cons rfl (fun K hK => ?_) (AllReadyIn.cons rfl (fun K hK => ?_) (AllReadyIn.cons rfl (fun K hK => ?_) (AllReadyIn.nil)))))
    · go_simp; exact hK _ _ (U _ _ _ _ (H12 W acc))
    · go_simp; exact hK _ _ (U _ _ _ _ (H26 W acc))
    · go_simp; exact hK _ _ (U _ _ _ _ (H28 (W.alloc (.cells #[.int .u64 0,.slice none 0 0] 25)) (acc.alloc acc.size _) W.heap.size (Var.new W _ _ _ _ _ rfl) acc.size))
    · go_simp; exact hK _ _ (U _ _ _ _ (H29 (W.alloc (.cells #[.int .u64 0,.slice none 0 0] 25)) (acc.alloc acc.size _) W.heap.size (Var.new W _ _ _ _ _ rfl) acc.size))
  have H31 : ∀ (W : World) (acc : Bx W3 W) (p5 : Nat) (v5 : Vx W p5 0) (h5 : W3.heap.size ≤ p5) (p6 : Nat) (v6 : Vx W p6 0) (h6 : W3.heap.size ≤ p6) (n56 : p5 ≠ p6),R 5 #[Ix,Ix,Ix,Ix,Ix,Ix,Ix,Ix,Ix,Ix,Ix,Ix,Ox,Ox,Ix,Ix,Ix,Ox,Ox,Ox] { tmps := #[ρ e,u,ρ s,ρ lb,V15,ρ p5,ρ p6,u,V8,ρ e,V10,V11,V12,V8,V14,V15,V15,u,u,u,u,u,u,u,u,u,u,u,u,u,u,u,u,u,u,u,u,u,u,.tuple #[ν 2,ν 0,.bool true],ρ e,ρ e,ρ e,ς ga 1 ca,ν 4,ρ e,ρ e,.pointer (some ⟨e,1,none⟩),ς gb 1 cb,ν 2,.tuple #[ν 2,ν 0,.bool true],u,u,.bool true,u,u,u,u,u,u,u,u,u,u,u,u,u,u,u,u,u,u,u,u],defers := [] } W := by
    intro W acc p5 v5 h5 p6 v6 h6 n56
    rw [← hR]
    dsimp only [ρ,ς,ν]
    refine wpAnyIn_ready (rs := [12,13]) (by kernel_rfl) (by simp) (AllReadyIn.cons rfl (fun K hK => ?_) (AllReadyIn.cons rfl (fun K hK => ?_) (AllReadyIn.nil)))
    · go_simp; exact hK _ _ (U _ _ _ _ (H14 W acc p5 v5 h5 p6 v6 h6 n56))
    · go_simp; exact hK _ _ (U _ _ _ _ (H23 W acc p5 v5 h5 p6 v6 h6 n56))
  have H32 : ∀ (W : World) (acc : Bx W3 W) (p5 : Nat) (v5 : Vx W p5 0) (h5 : W3.heap.size ≤ p5),R 6 #[Ix,Ix,Ix,Ix,Ix,Ix,Ix,Ix,Ix,Ix,Ix,Ix,Ox,Ox,Ix,Ix,Ox,Ox,Ox,Ox] { tmps := #[ρ e,u,ρ s,ρ lb,V15,ρ p5,u,u,V8,ρ e,V10,V11,V12,V8,V14,V15,V15,u,u,u,u,u,u,u,u,u,u,u,u,u,u,u,u,u,u,u,u,u,u,.tuple #[ν 2,ν 0,.bool true],ρ e,ρ e,ρ e,ς ga 1 ca,ν 4,ρ e,ρ e,.pointer (some ⟨e,1,none⟩),ς gb 1 cb,ν 2,.tuple #[ν 2,ν 0,.bool true],u,u,.bool true,u,u,u,u,u,u,u,u,u,u,u,u,u,u,u,u,u,u,u,u],defers := [] } W := by
    intro W acc p5 v5 h5
    rw [← hR]
    dsimp only [ρ,ς,ν]
    refine wpAnyIn_ready (rs := [12,13,16]) (by kernel_rfl) (by simp) (AllReadyIn.cons rfl (fun K hK => ?_) (AllReadyIn.cons rfl (fun K hK => ?_) (AllReadyIn.cons rfl (fun K hK => ?_) (AllReadyIn.nil))))
    · go_simp; exact hK _ _ (U _ _ _ _ (H15 W acc p5 v5 h5))
    · go_simp; exact hK _ _ (U _ _ _ _ (H24 W acc p5 v5 h5))
    · go_simp; exact hK _ _ (U _ _ _ _ (H31 (W.alloc (.cells #[.int .u64 0,.slice none 0 0] 25)) (acc.alloc acc.size _) p5 (v5.alloc _) h5 W.heap.size (Var.new W _ _ _ _ _ rfl) acc.size (Nat.ne_of_lt v5.lt)))
  have H33 : ∀ (W : World) (acc : Bx W3 W) (p6 : Nat) (v6 : Vx W p6 0) (h6 : W3.heap.size ≤ p6),R 6 #[Ix,Ix,Ix,Ix,Ix,Ix,Ix,Ix,Ix,Ix,Ix,Ix,Ox,Ox,Ix,Ox,Ix,Ox,Ox,Ox] { tmps := #[ρ e,u,ρ s,ρ lb,V15,u,ρ p6,u,V8,ρ e,V10,V11,V12,V8,V14,V15,V15,u,u,u,u,u,u,u,u,u,u,u,u,u,u,u,u,u,u,u,u,u,u,.tuple #[ν 2,ν 0,.bool true],ρ e,ρ e,ρ e,ς ga 1 ca,ν 4,ρ e,ρ e,.pointer (some ⟨e,1,none⟩),ς gb 1 cb,ν 2,.tuple #[ν 2,ν 0,.bool true],u,u,.bool true,u,u,u,u,u,u,u,u,u,u,u,u,u,u,u,u,u,u,u,u],defers := [] } W := by
    intro W acc p6 v6 h6
    rw [← hR]
    dsimp only [ρ,ς,ν]
    refine wpAnyIn_ready (rs := [12,13,15]) (by kernel_rfl) (by simp) (AllReadyIn.cons rfl (fun K hK => ?_) (AllReadyIn.cons rfl (fun K hK => ?_) (AllReadyIn.cons rfl (fun K hK => ?_) (AllReadyIn.nil))))
    · go_simp; exact hK _ _ (U _ _ _ _ (H16 W acc p6 v6 h6))
    · go_simp; exact hK _ _ (U _ _ _ _ (H25 W acc p6 v6 h6))
    · go_simp; exact hK _ _ (U _ _ _ _ (H31 (W.alloc (.cells #[.int .u64 0,.slice none 0 0] 25)) (acc.alloc acc.size _) W.heap.size (Var.new W _ _ _ _ _ rfl) acc.size p6 (v6.alloc _) h6 (Nat.ne_of_gt v6.lt)))
  have H34 : ∀ (W : World) (acc : Bx W3 W),R 7 #[Ix,Ix,Ix,Ix,Ix,Ix,Ix,Ix,Ix,Ix,Ix,Ix,Ox,Ox,Ix,Ox,Ox,Ox,Ox,Ox] { tmps := #[ρ e,u,ρ s,ρ lb,V15,u,u,u,V8,ρ e,V10,V11,V12,V8,V14,V15,V15,u,u,u,u,u,u,u,u,u,u,u,u,u,u,u,u,u,u,u,u,u,u,.tuple #[ν 2,ν 0,.bool true],ρ e,ρ e,ρ e,ς ga 1 ca,ν 4,ρ e,ρ e,.pointer (some ⟨e,1,none⟩),ς gb 1 cb,ν 2,.tuple #[ν 2,ν 0,.bool true],u,u,.bool true,u,u,u,u,u,u,u,u,u,u,u,u,u,u,u,u,u,u,u,u],defers := [] } W := by
    intro W acc
    rw [← hR]
    dsimp only [ρ,ς,ν]
    refine wpAnyIn_ready (rs := [12,13,15,16]) (by kernel_rfl) (by simp) (AllReadyIn.cons rfl (fun K hK => ?_) (AllReadyIn.cons rfl (fun K hK => ?_) (AllReadyIn.cons rfl (fun K hK => ?_) (AllReadyIn.cons rfl (fun K hK => ?_) (AllReadyIn.nil)))))
    · go_simp; exact hK _ _ (U _ _ _ _ (H17 W acc))
    · go_simp; exact hK _ _ (U _ _ _ _ (H26 W acc))
    · go_simp; exact hK _ _ (U _ _ _ _ (H32 (W.alloc (.cells #[.int .u64 0,.slice none 0 0] 25)) (acc.alloc acc.size _) W.heap.size (Var.new W _ _ _ _ _ rfl) acc.size))
    · go_simp; exact hK _ _ (U _ _ _ _ (H33 (W.alloc (.cells #[.int .u64 0,.slice none 0 0] 25)) (acc.alloc acc.size _) W.heap.size (Var.new W _ _ _ _ _ rfl) acc.size))
  have H35 : ∀ (W : World) (acc : Bx W3 W) (p5 : Nat) (v5 : Vx W p5 0) (h5 : W3.heap.size ≤ p5) (p6 : Nat) (v6 : Vx W p6 0) (h6 : W3.heap.size ≤ p6) (n56 : p5 ≠ p6),R 6 #[Ix,Ix,Ix,Ix,Ix,Ix,Ix,Ix,Ix,Ix,Ix,Ix,Ox,Ox,Ox,Ix,Ix,Ox,Ox,Ox] { tmps := #[ρ e,u,ρ s,ρ lb,V15,ρ p5,ρ p6,u,V8,ρ e,V10,V11,V12,V8,V14,V15,V15,u,u,u,u,u,u,u,u,u,u,u,u,u,u,u,u,u,u,u,u,u,u,.tuple #[ν 2,ν 0,.bool true],ρ e,ρ e,ρ e,ς ga 1 ca,ν 4,ρ e,ρ e,.pointer (some ⟨e,1,none⟩),ς gb 1 cb,ν 2,.tuple #[ν 2,ν 0,.bool true],u,u,u,u,u,u,u,u,u,u,u,u,u,u,u,u,u,u,u,u,u,u,u],defers := [] } W := by
    intro W acc p5 v5 h5 p6 v6 h6 n56
    rw [← hR]
    dsimp only [ρ,ς,ν]
    refine wpAnyIn_ready (rs := [12,13,14]) (by kernel_rfl) (by simp) (AllReadyIn.cons rfl (fun K hK => ?_) (AllReadyIn.cons rfl (fun K hK => ?_) (AllReadyIn.cons rfl (fun K hK => ?_) (AllReadyIn.nil))))
    · go_simp; exact hK _ _ (U _ _ _ _ (H19 W acc p5 v5 h5 p6 v6 h6 n56))
    · go_simp; exact hK _ _ (U _ _ _ _ (H27 W acc p5 v5 h5 p6 v6 h6 n56))
    · go_simp; exact hK _ _ (U _ _ _ _ (H31 W acc p5 v5 h5 p6 v6 h6 n56))
  have H36 : ∀ (W : World) (acc : Bx W3 W) (p5 : Nat) (v5 : Vx W p5 0) (h5 : W3.heap.size ≤ p5),R 7 #[Ix,Ix,Ix,Ix,Ix,Ix,Ix,Ix,Ix,Ix,Ix,Ix,Ox,Ox,Ox,Ix,Ox,Ox,Ox,Ox] { tmps := #[ρ e,u,ρ s,ρ lb,V15,ρ p5,u,u,V8,ρ e,V10,V11,V12,V8,V14,V15,V15,u,u,u,u,u,u,u,u,u,u,u,u,u,u,u,u,u,u,u,u,u,u,.tuple #[ν 2,ν 0,.bool true],ρ e,ρ e,ρ e,ς ga 1 ca,ν 4,ρ e,ρ e,.pointer (some ⟨e,1,none⟩),ς gb 1 cb,ν 2,.tuple #[ν 2,ν 0,.bool true],u,u,u,u,u,u,u,u,u,u,u,u,u,u,u,u,u,u,u,u,u,u,u],defers := [] } W := by
    intro W acc p5 v5 h5
    rw [← hR]
    dsimp only [ρ,ς,ν]
    refine wpAnyIn_ready (rs := [12,13,14,16]) (by kernel_rfl) (by simp) (AllReadyIn.cons rfl (fun K hK => ?_) (AllReadyIn.cons rfl (fun K hK => ?_) (AllReadyIn.cons rfl (fun K hK => ?_) (AllReadyIn.cons rfl (fun K hK => ?_) (AllReadyIn.nil)))))
    · go_simp; exact hK _ _ (U _ _ _ _ (H20 W acc p5 v5 h5))
    · go_simp; exact hK _ _ (U _ _ _ _ (H28 W acc p5 v5 h5))
    · go_simp; exact hK _ _ (U _ _ _ _ (H32 W acc p5 v5 h5))
    · go_simp; exact hK _ _ (U _ _ _ _ (H35 (W.alloc (.cells #[.int .u64 0,.slice none 0 0] 25)) (acc.alloc acc.size _) p5 (v5.alloc _) h5 W.heap.size (Var.new W _ _ _ _ _ rfl) acc.size (Nat.ne_of_lt v5.lt)))
  have H37 : ∀ (W : World) (acc : Bx W3 W) (p6 : Nat) (v6 : Vx W p6 0) (h6 : W3.heap.size ≤ p6),R 7 #[Ix,Ix,Ix,Ix,Ix,Ix,Ix,Ix,Ix,Ix,Ix,Ix,Ox,Ox,Ox,Ox,Ix,Ox,Ox,Ox] { tmps := #[ρ e,u,ρ s,ρ lb,V15,u,ρ p6,u,V8,ρ e,V10,V11,V12,V8,V14,V15,V15,u,u,u,u,u,u,u,u,u,u,u,u,u,u,u,u,u,u,u,u,u,u,.tuple #[ν 2,ν 0,.bool true],ρ e,ρ e,ρ e,ς ga 1 ca,ν 4,ρ e,ρ e,.pointer (some ⟨e,1,none⟩),ς gb 1 cb,ν 2,.tuple #[ν 2,ν 0,.bool true],u,u,u,u,u,u,u,u,u,u,u,u,u,u,u,u,u,u,u,u,u,u,u],defers := [] } W := by
    intro W acc p6 v6 h6
    rw [← hR]
    dsimp only [ρ,ς,ν]
    refine wpAnyIn_ready (rs := [12,13,14,15]) (by kernel_rfl) (by simp) (AllReadyIn.cons rfl (fun K hK => ?_) (AllReadyIn.cons rfl (fun K hK => ?_) (AllReadyIn.cons rfl (fun K hK => ?_) (AllReadyIn.cons rfl (fun K hK => ?_) (AllReadyIn.nil)))))
    · go_simp; exact hK _ _ (U _ _ _ _ (H21 W acc p6 v6 h6))
    · go_simp; exact hK _ _ (U _ _ _ _ (H29 W acc p6 v6 h6))
    · go_simp; exact hK _ _ (U _ _ _ _ (H33 W acc p6 v6 h6))
    · go_simp; exact hK _ _ (U _ _ _ _ (H35 (W.alloc (.cells #[.int .u64 0,.slice none 0 0] 25)) (acc.alloc acc.size _) W.heap.size (Var.new W _ _ _ _ _ rfl) acc.size p6 (v6.alloc _) h6 (Nat.ne_of_gt v6.lt)))
  have H38 : ∀ (W : World) (acc : Bx W3 W),R 8 #[Ix,Ix,Ix,Ix,Ix,Ix,Ix,Ix,Ix,Ix,Ix,Ix,Ox,Ox,Ox,Ox,Ox,Ox,Ox,Ox] { tmps := #[ρ e,u,ρ s,ρ lb,V15,u,u,u,V8,ρ e,V10,V11,V12,V8,V14,V15,V15,u,u,u,u,u,u,u,u,u,u,u,u,u,u,u,u,u,u,u,u,u,u,.tuple #[ν 2,ν 0,.bool true],ρ e,ρ e,ρ e,ς ga 1 ca,ν 4,ρ e,ρ e,.pointer (some ⟨e,1,none⟩),ς gb 1 cb,ν 2,.tuple #[ν 2,ν 0,.bool true],u,u,u,u,u,u,u,u,u,u,u,u,u,u,u,u,u,u,u,u,u,u,u],defers := [] } W := by
    intro W acc
    rw [← hR]
    dsimp only [ρ,ς,ν]
    refine wpAnyIn_ready (rs := [12,13,14,15,16]) (by kernel_rfl) (by simp) (AllReadyIn.cons rfl (fun K hK => ?_) (AllReadyIn.cons rfl (fun K hK => ?_) (AllReadyIn.cons rfl (fun K hK => ?_) (AllReadyIn.cons rfl (fun K hK => ?_) (AllReadyIn.cons rfl (fun K hK => ?_) (AllReadyIn.nil))))))
    · go_simp; exact hK _ _ (U _ _ _ _ (H22 W acc))
    · go_simp; exact hK _ _ (U _ _ _ _ (H30 W acc))
    · go_simp; exact hK _ _ (U _ _ _ _ (H34 W acc))
    · go_simp; exact hK _ _ (U _ _ _ _ (H36 (W.alloc (.cells #[.int .u64 0,.slice none 0 0] 25)) (acc.alloc acc.size _) W.heap.size (Var.new W _ _ _ _ _ rfl) acc.size))
    · go_simp; exact hK _ _ (U _ _ _ _ (H37 (W.alloc (.cells #[.int .u64 0,.slice none 0 0] 25)) (acc.alloc acc.size _) W.heap.size (Var.new W _ _ _ _ _ rfl) acc.size))
  have H39 : ∀ (W : World) (acc : Bx W3 W) (p5 : Nat) (v5 : Vx W p5 0) (h5 : W3.heap.size ≤ p5) (p6 : Nat) (v6 : Vx W p6 0) (h6 : W3.heap.size ≤ p6) (n56 : p5 ≠ p6),R 7 #[Ix,Ix,Ix,Ix,Ix,Ix,Ix,Ix,Ix,Ix,Ix,Ox,Ox,Ox,Ox,Ix,Ix,Ox,Ox,Ox] { tmps := #[ρ e,u,ρ s,ρ lb,V15,ρ p5,ρ p6,u,V8,ρ e,V10,V11,V12,V8,V14,V15,V15,u,u,u,u,u,u,u,u,u,u,u,u,u,u,u,u,u,u,u,u,u,u,u,ρ e,ρ e,ρ e,ς ga 1 ca,ν 4,ρ e,ρ e,.pointer (some ⟨e,1,none⟩),ς gb 1 cb,ν 2,.tuple #[ν 2,ν 0,.bool true],u,u,u,u,u,u,u,u,u,u,u,u,u,u,u,u,u,u,u,u,u,u,u],defers := [] } W := by
    intro W acc p5 v5 h5 p6 v6 h6 n56
    rw [← hR]
    dsimp only [ρ,ς,ν]
    refine wpAnyIn_ready (rs := [11]) (by kernel_rfl) (by simp) (AllReadyIn.cons rfl (fun K hK => ?_) (AllReadyIn.nil))
    · go_simp; exact hK _ _ (U _ _ _ _ (H35 W acc p5 v5 h5 p6 v6 h6 n56))
  have H40 : ∀ (W : World) (acc : Bx W3 W) (p5 : Nat) (v5 : Vx W p5 0) (h5 : W3.heap.size ≤ p5),R 8 #[Ix,Ix,Ix,Ix,Ix,Ix,Ix,Ix,Ix,Ix,Ix,Ox,Ox,Ox,Ox,Ix,Ox,Ox,Ox,Ox] { tmps := #[ρ e,u,ρ s,ρ lb,V15,ρ p5,u,u,V8,ρ e,V10,V11,V12,V8,V14,V15,V15,u,u,u,u,u,u,u,u,u,u,u,u,u,u,u,u,u,u,u,u,u,u,u,ρ e,ρ e,ρ e,ς ga 1 ca,ν 4,ρ e,ρ e,.pointer (some ⟨e,1,none⟩),ς gb 1 cb,ν 2,.tuple #[ν 2,ν 0,.bool true],u,u,u,u,u,u,u,u,u,u,u,u,u,u,u,u,u,u,u,u,u,u,u],defers := [] } W := by
    intro W acc p5 v5 h5
    rw [← hR]
    dsimp only [ρ,ς,ν]
    refine wpAnyIn_ready (rs := [11,16]) (by kernel_rfl) (by simp) (AllReadyIn.cons rfl (fun K hK => ?_) (AllReadyIn.cons rfl (fun K hK => ?_) (AllReadyIn.nil)))
    · go_simp; exact hK _ _ (U _ _ _ _ (H36 W acc p5 v5 h5))
    · go_simp; exact hK _ _ (U _ _ _ _ (H39 (W.alloc (.cells #[.int .u64 0,.slice none 0 0] 25)) (acc.alloc acc.size _) p5 (v5.alloc _) h5 W.heap.size (Var.new W _ _ _ _ _ rfl) acc.size (Nat.ne_of_lt v5.lt)))
  have H41 : ∀ (W : World) (acc : Bx W3 W) (p6 : Nat) (v6 : Vx W p6 0) (h6 : W3.heap.size ≤ p6),R 8 #[Ix,Ix,Ix,Ix,Ix,Ix,Ix,Ix,Ix,Ix,Ix,Ox,Ox,Ox,Ox,Ox,Ix,Ox,Ox,Ox] { tmps := #[ρ e,u,ρ s,ρ lb,V15,u,ρ p6,u,V8,ρ e,V10,V11,V12,V8,V14,V15,V15,u,u,u,u,u,u,u,u,u,u,u,u,u,u,u,u,u,u,u,u,u,u,u,ρ e,ρ e,ρ e,ς ga 1 ca,ν 4,ρ e,ρ e,.pointer (some ⟨e,1,none⟩),ς gb 1 cb,ν 2,.tuple #[ν 2,ν 0,.bool true],u,u,u,u,u,u,u,u,u,u,u,u,u,u,u,u,u,u,u,u,u,u,u],defers := [] } W := by
    intro W acc p6 v6 h6
    rw [← hR]
    dsimp only [ρ,ς,ν]
    refine wpAnyIn_ready (rs := [11,15]) (by kernel_rfl) (by simp) (AllReadyIn.cons rfl (fun K hK => ?_) (AllReadyIn.cons rfl (fun K hK => ?_) (AllReadyIn.nil)))
    · go_simp; exact hK _ _ (U _ _ _ _ (H37 W acc p6 v6 h6))
    · go_simp; exact hK _ _ (U _ _ _ _ (H39 (W.alloc (.cells #[.int .u64 0,.slice none 0 0] 25)) (acc.alloc acc.size _) W.heap.size (Var.new W _ _ _ _ _ rfl) acc.size p6 (v6.alloc _) h6 (Nat.ne_of_gt v6.lt)))
  have H42 : ∀ (W : World) (acc : Bx W3 W),R 9 #[Ix,Ix,Ix,Ix,Ix,Ix,Ix,Ix,Ix,Ix,Ix,Ox,Ox,Ox,Ox,Ox,Ox,Ox,Ox,Ox] { tmps := #[ρ e,u,ρ s,ρ lb,V15,u,u,u,V8,ρ e,V10,V11,V12,V8,V14,V15,V15,u,u,u,u,u,u,u,u,u,u,u,u,u,u,u,u,u,u,u,u,u,u,u,ρ e,ρ e,ρ e,ς ga 1 ca,ν 4,ρ e,ρ e,.pointer (some ⟨e,1,none⟩),ς gb 1 cb,ν 2,.tuple #[ν 2,ν 0,.bool true],u,u,u,u,u,u,u,u,u,u,u,u,u,u,u,u,u,u,u,u,u,u,u],defers := [] } W := by
    intro W acc
    rw [← hR]
    dsimp only [ρ,ς,ν]
    refine wpAnyIn_ready (rs := [11,15,16]) (by kernel_rfl) (by simp) (AllReadyIn.cons rfl (fun K hK => ?_) (AllReadyIn.cons rfl (fun K hK => ?_) (AllReadyIn.cons rfl (fun K hK => ?_) (AllReadyIn.nil))))
    · go_simp; exact hK _ _ (U _ _ _ _ (H38 W acc))
    · go_simp; exact hK _ _ (U _ _ _ _ (H40 (W.alloc (.cells #[.int .u64 0,.slice none 0 0] 25)) (acc.alloc acc.size _) W.heap.size (Var.new W _ _ _ _ _ rfl) acc.size))
    · go_simp; exact hK _ _ (U _ _ _ _ (H41 (W.alloc (.cells #[.int .u64 0,.slice none 0 0] 25)) (acc.alloc acc.size _) W.heap.size (Var.new W _ _ _ _ _ rfl) acc.size))
  have H43 : ∀ (W : World) (acc : Bx W3 W) (p5 : Nat) (v5 : Vx W p5 0) (h5 : W3.heap.size ≤ p5) (p6 : Nat) (v6 : Vx W p6 0) (h6 : W3.heap.size ≤ p6) (n56 : p5 ≠ p6),R 8 #[Ix,Ix,Ix,Ix,Ix,Ix,Ix,Ix,Ix,Ix,Ox,Ox,Ox,Ox,Ox,Ix,Ix,Ox,Ox,Ox] { tmps := #[ρ e,u,ρ s,ρ lb,V15,ρ p5,ρ p6,u,V8,ρ e,V10,V11,V12,V8,V14,V15,V15,u,u,u,u,u,u,u,u,u,u,u,u,u,u,u,u,u,u,u,u,u,u,u,ρ e,ρ e,ρ e,ς ga 1 ca,ν 4,ρ e,ρ e,.pointer (some ⟨e,1,none⟩),ς gb 1 cb,ν 2,u,u,u,u,u,u,u,u,u,u,u,u,u,u,u,u,u,u,u,u,u,u,u,u],defers := [] } W := by
    intro W acc p5 v5 h5 p6 v6 h6 n56
    rw [← hR]
    dsimp only [ρ,ς,ν]
    refine wpAnyIn_ready (rs := [10]) (by kernel_rfl) (by simp) (AllReadyIn.cons rfl (fun K hK => ?_) (AllReadyIn.nil))
    · go_simp
      gi_wp2_with (refine ⟨trivial,?_⟩; gi_at_call 39; refine (callsIn_wide.2 (div_42 W)).mono ?_; rintro e W2 ⟨rfl,hb⟩)
      exact U _ _ _ _ (H39 W2 (below_acc acc acc.size hb) p5 (v5.below hb v5.lt) h5 p6 (v6.below hb v6.lt) h6 n56)
  have H44 : ∀ (W : World) (acc : Bx W3 W) (p5 : Nat) (v5 : Vx W p5 0) (h5 : W3.heap.size ≤ p5),R 9 #[Ix,Ix,Ix,Ix,Ix,Ix,Ix,Ix,Ix,Ix,Ox,Ox,Ox,Ox,Ox,Ix,Ox,Ox,Ox,Ox] { tmps := #[ρ e,u,ρ s,ρ lb,V15,ρ p5,u,u,V8,ρ e,V10,V11,V12,V8,V14,V15,V15,u,u,u,u,u,u,u,u,u,u,u,u,u,u,u,u,u,u,u,u,u,u,u,ρ e,ρ e,ρ e,ς ga 1 ca,ν 4,ρ e,ρ e,.pointer (some ⟨e,1,none⟩),ς gb 1 cb,ν 2,u,u,u,u,u,u,u,u,u,u,u,u,u,u,u,u,u,u,u,u,u,u,u,u],defers := [] } W := by
    intro W acc p5 v5 h5
    rw [← hR]
    dsimp only [ρ,ς,ν]
    refine wpAnyIn_ready (rs := [10,16]) (by kernel_rfl) (by simp) (AllReadyIn.cons rfl (fun K hK => ?_) (AllReadyIn.cons rfl (fun K hK => ?_) (AllReadyIn.nil)))
    · go_simp
      gi_wp2_with (refine ⟨trivial,?_⟩; gi_at_call 39; refine (callsIn_wide.2 (div_42 W)).mono ?_; rintro e W2 ⟨rfl,hb⟩)
      exact U _ _ _ _ (H40 W2 (below_acc acc acc.size hb) p5 (v5.below hb v5.lt) h5)
    · go_simp; exact hK _ _ (U _ _ _ _ (H43 (W.alloc (.cells #[.int .u64 0,.slice none 0 0] 25)) (acc.alloc acc.size _) p5 (v5.alloc _) h5 W.heap.size (Var.new W _ _ _ _ _ rfl) acc.size (Nat.ne_of_lt v5.lt)))
  have H45 : ∀ (W : World) (acc : Bx W3 W) (p6 : Nat) (v6 : Vx W p6 0) (h6 : W3.heap.size ≤ p6),R 9 #[Ix,Ix,Ix,Ix,Ix,Ix,Ix,Ix,Ix,Ix,Ox,Ox,Ox,Ox,Ox,Ox,Ix,Ox,Ox,Ox] { tmps := #[ρ e,u,ρ s,ρ lb,V15,u,ρ p6,u,V8,ρ e,V10,V11,V12,V8,V14,V15,V15,u,u,u,u,u,u,u,u,u,u,u,u,u,u,u,u,u,u,u,u,u,u,u,ρ e,ρ e,ρ e,ς ga 1 ca,ν 4,ρ e,ρ e,.pointer (some ⟨e,1,none⟩),ς gb 1 cb,ν 2,u,u,u,u,u,u,u,u,u,u,u,u,u,u,u,u,u,u,u,u,u,u,u,u],defers := [] } W := by
    intro W acc p6 v6 h6
    rw [← hR]
    dsimp only [ρ,ς,ν]
    refine wpAnyIn_ready (rs := [10,15]) (by kernel_rfl) (by simp) (AllReadyIn.cons rfl (fun K hK => ?_) (AllReadyIn.cons rfl (fun K hK => ?_) (AllReadyIn.nil)))
    · go_simp
      gi_wp2_with (refine ⟨trivial,?_⟩; gi_at_call 39; refine (callsIn_wide.2 (div_42 W)).mono ?_; rintro e W2 ⟨rfl,hb⟩)
      exact U _ _ _ _ (H41 W2 (below_acc acc acc.size hb) p6 (v6.below hb v6.lt) h6)
    · go_simp; exact hK _ _ (U _ _ _ _ (H43 (W.alloc (.cells #[.int .u64 0,.slice none 0 0] 25)) (acc.alloc acc.size _) W.heap.size (Var.new W _ _ _ _ _ rfl) acc.size p6 (v6.alloc _) h6 (Nat.ne_of_gt v6.lt)))
  have H46 : ∀ (W : World) (acc : Bx W3 W),R 10 #[Ix,Ix,Ix,Ix,Ix,Ix,Ix,Ix,Ix,Ix,Ox,Ox,Ox,Ox,Ox,Ox,Ox,Ox,Ox,Ox] { tmps := #[ρ e,u,ρ s,ρ lb,V15,u,u,u,V8,ρ e,V10,V11,V12,V8,V14,V15,V15,u,u,u,u,u,u,u,u,u,u,u,u,u,u,u,u,u,u,u,u,u,u,u,ρ e,ρ e,ρ e,ς ga 1 ca,ν 4,ρ e,ρ e,.pointer (some ⟨e,1,none⟩),ς gb 1 cb,ν 2,u,u,u,u,u,u,u,u,u,u,u,u,u,u,u,u,u,u,u,u,u,u,u,u],defers := [] } W := by
    intro W acc
    rw [← hR]
    dsimp only [ρ,ς,ν]
    refine wpAnyIn_ready (rs := [10,15,16]) (by kernel_rfl) (by simp) (AllReadyIn.cons rfl (fun K hK => ?_) (AllReadyIn.cons rfl (fun K hK => ?_) (AllReadyIn.cons rfl (fun K hK => ?_) (AllReadyIn.nil))))
    · go_simp
      gi_wp2_with (refine ⟨trivial,?_⟩; gi_at_call 39; refine (callsIn_wide.2 (div_42 W)).mono ?_; rintro e W2 ⟨rfl,hb⟩)
      exact U _ _ _ _ (H42 W2 (below_acc acc acc.size hb))
    · go_simp; exact hK _ _ (U _ _ _ _ (H44 (W.alloc (.cells #[.int .u64 0,.slice none 0 0] 25)) (acc.alloc acc.size _) W.heap.size (Var.new W _ _ _ _ _ rfl) acc.size))
    · go_simp; exact hK _ _ (U _ _ _ _ (H45 (W.alloc (.cells #[.int .u64 0,.slice none 0 0] 25)) (acc.alloc acc.size _) W.heap.size (Var.new W _ _ _ _ _ rfl) acc.size))
  have H47 : ∀ (W : World) (acc : Bx W3 W) (p5 : Nat) (v5 : Vx W p5 0) (h5 : W3.heap.size ≤ p5) (p6 : Nat) (v6 : Vx W p6 0) (h6 : W3.heap.size ≤ p6) (n56 : p5 ≠ p6),R 9 #[Ix,Ix,Ix,Ix,Ix,Ix,Ix,Ix,Ix,Ox,Ox,Ox,Ox,Ox,Ox,Ix,Ix,Ox,Ox,Ox] { tmps := #[ρ e,u,ρ s,ρ lb,V15,ρ p5,ρ p6,u,V8,ρ e,V10,V11,V12,V8,V14,V15,V15,u,u,u,u,u,u,u,u,u,u,u,u,u,u,u,u,u,u,u,u,u,u,u,ρ e,ρ e,ρ e,ς ga 1 ca,ν 4,ρ e,ρ e,.pointer (some ⟨e,1,none⟩),ς gb 1 cb,u,u,u,u,u,u,u,u,u,u,u,u,u,u,u,u,u,u,u,u,u,u,u,u,u],defers := [] } W := by
    intro W acc p5 v5 h5 p6 v6 h6 n56
    rw [← hR]
    dsimp only [ρ,ς,ν]
    refine wpAnyIn_ready (rs := [9]) (by kernel_rfl) (by simp) (AllReadyIn.cons rfl (fun K hK => ?_) (AllReadyIn.nil))
    · go_simp
      gi_wp2_with (refine ⟨trivial,?_⟩; gi_at_call 49; refine (callsIn_wide.2 (number_one 2 (by decide) gb 22 cb W (hgb.below acc hgb.lt))).mono ?_; rintro e W2 ⟨rfl,hb⟩)
      exact U _ _ _ _ (H43 W2 (below_acc acc acc.size hb) p5 (v5.below hb v5.lt) h5 p6 (v6.below hb v6.lt) h6 n56)
  have H48 : ∀ (W : World) (acc : Bx W3 W) (p5 : Nat) (v5 : Vx W p5 0) (h5 : W3.heap.size ≤ p5),R 10 #[Ix,Ix,Ix,Ix,Ix,Ix,Ix,Ix,Ix,Ox,Ox,Ox,Ox,Ox,Ox,Ix,Ox,Ox,Ox,Ox] { tmps := #[ρ e,u,ρ s,ρ lb,V15,ρ p5,u,u,V8,ρ e,V10,V11,V12,V8,V14,V15,V15,u,u,u,u,u,u,u,u,u,u,u,u,u,u,u,u,u,u,u,u,u,u,u,ρ e,ρ e,ρ e,ς ga 1 ca,ν 4,ρ e,ρ e,.pointer (some ⟨e,1,none⟩),ς gb 1 cb,u,u,u,u,u,u,u,u,u,u,u,u,u,u,u,u,u,u,u,u,u,u,u,u,u],defers := [] } W := by
    intro W acc p5 v5 h5
    rw [← hR]
    dsimp only [ρ,ς,ν]
    refine wpAnyIn_ready (rs := [9,16]) (by kernel_rfl) (by simp) (AllReadyIn.cons rfl (fun K hK => ?_) (AllReadyIn.cons rfl (fun K hK => ?_) (AllReadyIn.nil)))
    · go_simp
      gi_wp2_with (refine ⟨trivial,?_⟩; gi_at_call 49; refine (callsIn_wide.2 (number_one 2 (by decide) gb 22 cb W (hgb.below acc hgb.lt))).mono ?_; rintro e W2 ⟨rfl,hb⟩)
      exact U _ _ _ _ (H44 W2 (below_acc acc acc.size hb) p5 (v5.below hb v5.lt) h5)
    · go_simp; exact hK _ _ (U _ _ _ _ (H47 (W.alloc (.cells #[.int .u64 0,.slice none 0 0] 25)) (acc.alloc acc.size _) p5 (v5.alloc _) h5 W.heap.size (Var.new W _ _ _ _ _ rfl) acc.size (Nat.ne_of_lt v5.lt)))
  have H49 : ∀ (W : World) (acc : Bx W3 W) (p6 : Nat) (v6 : Vx W p6 0) (h6 : W3.heap.size ≤ p6),R 10 #[Ix,Ix,Ix,Ix,Ix,Ix,Ix,Ix,Ix,Ox,Ox,Ox,Ox,Ox,Ox,Ox,Ix,Ox,Ox,Ox] { tmps := #[ρ e,u,ρ s,ρ lb,V15,u,ρ p6,u,V8,ρ e,V10,V11,V12,V8,V14,V15,V15,u,u,u,u,u,u,u,u,u,u,u,u,u,u,u,u,u,u,u,u,u,u,u,ρ e,ρ e,ρ e,ς ga 1 ca,ν 4,ρ e,ρ e,.pointer (some ⟨e,1,none⟩),ς gb 1 cb,u,u,u,u,u,u,u,u,u,u,u,u,u,u,u,u,u,u,u,u,u,u,u,u,u],defers := [] } W := by
    intro W acc p6 v6 h6
    rw [← hR]
    dsimp only [ρ,ς,ν]
    refine wpAnyIn_ready (rs := [9,15]) (by kernel_rfl) (by simp) (AllReadyIn.cons rfl (fun K hK => ?_) (AllReadyIn.cons rfl (fun K hK => ?_) (AllReadyIn.nil)))
    · go_simp
      gi_wp2_with (refine ⟨trivial,?_⟩; gi_at_call 49; refine (callsIn_wide.2 (number_one 2 (by decide) gb 22 cb W (hgb.below acc hgb.lt))).mono ?_; rintro e W2 ⟨rfl,hb⟩)
      exact U _ _ _ _ (H45 W2 (below_acc acc acc.size hb) p6 (v6.below hb v6.lt) h6)
    · go_simp; exact hK _ _ (U _ _ _ _ (H47 (W.alloc (.cells #[.int .u64 0,.slice none 0 0] 25)) (acc.alloc acc.size _) W.heap.size (Var.new W _ _ _ _ _ rfl) acc.size p6 (v6.alloc _) h6 (Nat.ne_of_gt v6.lt)))
  have H50 : ∀ (W : World) (acc : Bx W3 W),R 11 #[Ix,Ix,Ix,Ix,Ix,Ix,Ix,Ix,Ix,Ox,Ox,Ox,Ox,Ox,Ox,Ox,Ox,Ox,Ox,Ox] { tmps := #[ρ e,u,ρ s,ρ lb,V15,u,u,u,V8,ρ e,V10,V11,V12,V8,V14,V15,V15,u,u,u,u,u,u,u,u,u,u,u,u,u,u,u,u,u,u,u,u,u,u,u,ρ e,ρ e,ρ e,ς ga 1 ca,ν 4,ρ e,ρ e,.pointer (some ⟨e,1,none⟩),ς gb 1 cb,u,u,u,u,u,u,u,u,u,u,u,u,u,u,u,u,u,u,u,u,u,u,u,u,u],defers := [] } W := by
    intro W acc
    rw [← hR]
    dsimp only [ρ,ς,ν]
    refine wpAnyIn_ready (rs := [9,15,16]) (by kernel_rfl) (by simp) (AllReadyIn.cons rfl (fun K hK => ?_) (AllReadyIn.cons rfl (fun K hK => ?_) (AllReadyIn.cons rfl (fun K hK => ?_) (AllReadyIn.nil))))
    · go_simp
      gi_wp2_with (refine ⟨trivial,?_⟩; gi_at_call 49; refine (callsIn_wide.2 (number_one 2 (by decide) gb 22 cb W (hgb.below acc hgb.lt))).mono ?_; rintro e W2 ⟨rfl,hb⟩)
      exact U _ _ _ _ (H46 W2 (below_acc acc acc.size hb))
    · go_simp; exact hK _ _ (U _ _ _ _ (H48 (W.alloc (.cells #[.int .u64 0,.slice none 0 0] 25)) (acc.alloc acc.size _) W.heap.size (Var.new W _ _ _ _ _ rfl) acc.size))
    · go_simp; exact hK _ _ (U _ _ _ _ (H49 (W.alloc (.cells #[.int .u64 0,.slice none 0 0] 25)) (acc.alloc acc.size _) W.heap.size (Var.new W _ _ _ _ _ rfl) acc.size))
  have H51 : ∀ (W : World) (acc : Bx W3 W) (p5 : Nat) (v5 : Vx W p5 0) (h5 : W3.heap.size ≤ p5) (p6 : Nat) (v6 : Vx W p6 0) (h6 : W3.heap.size ≤ p6) (n56 : p5 ≠ p6),R 10 #[Ix,Ix,Ix,Ix,Ix,Ix,Ix,Ix,Ox,Ox,Ox,Ox,Ox,Ox,Ox,Ix,Ix,Ox,Ox,Ox] { tmps := #[ρ e,u,ρ s,ρ lb,V15,ρ p5,ρ p6,u,V8,ρ e,V10,V11,V12,V8,V14,V15,V15,u,u,u,u,u,u,u,u,u,u,u,u,u,u,u,u,u,u,u,u,u,u,u,ρ e,ρ e,ρ e,ς ga 1 ca,ν 4,ρ e,ρ e,.pointer (some ⟨e,1,none⟩),u,u,u,u,u,u,u,u,u,u,u,u,u,u,u,u,u,u,u,u,u,u,u,u,u,u],defers := [] } W := by
    intro W acc p5 v5 h5 p6 v6 h6 n56
    rw [← hR]
    dsimp only [ρ,ς,ν]
    have e1 := (he.below acc zE).cell1
    refine wpAnyIn_ready (rs := [8]) (by kernel_rfl) (by simp) (AllReadyIn.cons rfl (fun K hK => ?_) (AllReadyIn.nil))
    · go_simp; exact hK _ _ (U _ _ _ _ (H47 W acc p5 v5 h5 p6 v6 h6 n56))
  have H52 : ∀ (W : World) (acc : Bx W3 W) (p5 : Nat) (v5 : Vx W p5 0) (h5 : W3.heap.size ≤ p5),R 11 #[Ix,Ix,Ix,Ix,Ix,Ix,Ix,Ix,Ox,Ox,Ox,Ox,Ox,Ox,Ox,Ix,Ox,Ox,Ox,Ox] { tmps := #[ρ e,u,ρ s,ρ lb,V15,ρ p5,u,u,V8,ρ e,V10,V11,V12,V8,V14,V15,V15,u,u,u,u,u,u,u,u,u,u,u,u,u,u,u,u,u,u,u,u,u,u,u,ρ e,ρ e,ρ e,ς ga 1 ca,ν 4,ρ e,ρ e,.pointer (some ⟨e,1,none⟩),u,u,u,u,u,u,u,u,u,u,u,u,u,u,u,u,u,u,u,u,u,u,u,u,u,u],defers := [] } W := by
    intro W acc p5 v5 h5
    rw [← hR]
    dsimp only [ρ,ς,ν]
    have e1 := (he.below acc zE).cell1
    refine wpAnyIn_ready (rs := [8,16]) (by kernel_rfl) (by simp) (AllReadyIn.cons rfl (fun K hK => ?_) (AllReadyIn.cons rfl (fun K hK => ?_) (AllReadyIn.nil)))
    · go_simp; exact hK _ _ (U _ _ _ _ (H48 W acc p5 v5 h5))
    · go_simp; exact hK _ _ (U _ _ _ _ (H51 (W.alloc (.cells #[.int .u64 0,.slice none 0 0] 25)) (acc.alloc acc.size _) p5 (v5.alloc _) h5 W.heap.size (Var.new W _ _ _ _ _ rfl) acc.size (Nat.ne_of_lt v5.lt)))
  have H53 : ∀ (W : World) (acc : Bx W3 W) (p6 : Nat) (v6 : Vx W p6 0) (h6 : W3.heap.size ≤ p6),R 11 #[Ix,Ix,Ix,Ix,Ix,Ix,Ix,Ix,Ox,Ox,Ox,Ox,Ox,Ox,Ox,Ox,Ix,Ox,Ox,Ox] { tmps := #[ρ e,u,ρ s,ρ lb,V15,u,ρ p6,u,V8,ρ e,V10,V11,V12,V8,V14,V15,V15,u,u,u,u,u,u,u,u,u,u,u,u,u,u,u,u,u,u,u,u,u,u,u,ρ e,ρ e,ρ e,ς ga 1 ca,ν 4,ρ e,ρ e,.pointer (some ⟨e,1,none⟩),u,u,u,u,u,u,u,u,u,u,u,u,u,u,u,u,u,u,u,u,u,u,u,u,u,u],defers := [] } W := by
    intro W acc p6 v6 h6
    rw [← hR]
    dsimp only [ρ,ς,ν]
    have e1 := (he.below acc zE).cell1
    refine wpAnyIn_ready (rs := [8,15]) (by kernel_rfl) (by simp) (AllReadyIn.cons rfl (fun K hK => ?_) (AllReadyIn.cons rfl (fun K hK => ?_) (AllReadyIn.nil)))
    · go_simp; exact hK _ _ (U _ _ _ _ (H49 W acc p6 v6 h6))
    · go_simp; exact hK _ _ (U _ _ _ _ (H51 (W.alloc (.cells #[.int .u64 0,.slice none 0 0] 25)) (acc.alloc acc.size _) W.heap.size (Var.new W _ _ _ _ _ rfl) acc.size p6 (v6.alloc _) h6 (Nat.ne_of_gt v6.lt)))
  have H54 : ∀ (W : World) (acc : Bx W3 W),R 12 #[Ix,Ix,Ix,Ix,Ix,Ix,Ix,Ix,Ox,Ox,Ox,Ox,Ox,Ox,Ox,Ox,Ox,Ox,Ox,Ox] { tmps := #[ρ e,u,ρ s,ρ lb,V15,u,u,u,V8,ρ e,V10,V11,V12,V8,V14,V15,V15,u,u,u,u,u,u,u,u,u,u,u,u,u,u,u,u,u,u,u,u,u,u,u,ρ e,ρ e,ρ e,ς ga 1 ca,ν 4,ρ e,ρ e,.pointer (some ⟨e,1,none⟩),u,u,u,u,u,u,u,u,u,u,u,u,u,u,u,u,u,u,u,u,u,u,u,u,u,u],defers := [] } W := by
    intro W acc
    rw [← hR]
    dsimp only [ρ,ς,ν]
    have e1 := (he.below acc zE).cell1
    refine wpAnyIn_ready (rs := [8,15,16]) (by kernel_rfl) (by simp) (AllReadyIn.cons rfl (fun K hK => ?_) (AllReadyIn.cons rfl (fun K hK => ?_) (AllReadyIn.cons rfl (fun K hK => ?_) (AllReadyIn.nil))))
    · go_simp; exact hK _ _ (U _ _ _ _ (H50 W acc))
    · go_simp; exact hK _ _ (U _ _ _ _ (H52 (W.alloc (.cells #[.int .u64 0,.slice none 0 0] 25)) (acc.alloc acc.size _) W.heap.size (Var.new W _ _ _ _ _ rfl) acc.size))
    · go_simp; exact hK _ _ (U _ _ _ _ (H53 (W.alloc (.cells #[.int .u64 0,.slice none 0 0] 25)) (acc.alloc acc.size _) W.heap.size (Var.new W _ _ _ _ _ rfl) acc.size))
  have H55 : ∀ (W : World) (acc : Bx W3 W) (p5 : Nat) (v5 : Vx W p5 0) (h5 : W3.heap.size ≤ p5) (p6 : Nat) (v6 : Vx W p6 0) (h6 : W3.heap.size ≤ p6) (n56 : p5 ≠ p6),R 11 #[Ix,Ix,Ix,Ix,Ix,Ix,Ix,Ox,Ox,Ox,Ox,Ox,Ox,Ox,Ox,Ix,Ix,Ox,Ox,Ox] { tmps := #[ρ e,u,ρ s,ρ lb,V15,ρ p5,ρ p6,u,V8,ρ e,V10,V11,V12,V8,V14,V15,V15,u,u,u,u,u,u,u,u,u,u,u,u,u,u,u,u,u,u,u,u,u,u,u,ρ e,ρ e,ρ e,ς ga 1 ca,ν 4,ρ e,ρ e,u,u,u,u,u,u,u,u,u,u,u,u,u,u,u,u,u,u,u,u,u,u,u,u,u,u,u],defers := [] } W := by
    intro W acc p5 v5 h5 p6 v6 h6 n56
    rw [← hR]
    dsimp only [ρ,ς,ν]
    have e1 := (he.below acc zE).cell1
    refine wpAnyIn_ready (rs := [7]) (by kernel_rfl) (by simp) (AllReadyIn.cons rfl (fun K hK => ?_) (AllReadyIn.nil))
    · go_simp; exact hK _ _ (U _ _ _ _ (H51 W acc p5 v5 h5 p6 v6 h6 n56))
  have H56 : ∀ (W : World) (acc : Bx W3 W) (p5 : Nat) (v5 : Vx W p5 0) (h5 : W3.heap.size ≤ p5),R 12 #[Ix,Ix,Ix,Ix,Ix,Ix,Ix,Ox,Ox,Ox,Ox,Ox,Ox,Ox,Ox,Ix,Ox,Ox,Ox,Ox] { tmps := #[ρ e,u,ρ s,ρ lb,V15,ρ p5,u,u,V8,ρ e,V10,V11,V12,V8,V14,V15,V15,u,u,u,u,u,u,u,u,u,u,u,u,u,u,u,u,u,u,u,u,u,u,u,ρ e,ρ e,ρ e,ς ga 1 ca,ν 4,ρ e,ρ e,u,u,u,u,u,u,u,u,u,u,u,u,u,u,u,u,u,u,u,u,u,u,u,u,u,u,u],defers := [] } W := by
    intro W acc p5 v5 h5
    rw [← hR]
    dsimp only [ρ,ς,ν]
    have e1 := (he.below acc zE).cell1
    refine wpAnyIn_ready (rs := [7,16]) (by kernel_rfl) (by simp) (AllReadyIn.cons rfl (fun K hK => ?_) (AllReadyIn.cons rfl (fun K hK => ?_) (AllReadyIn.nil)))
    · go_simp; exact hK _ _ (U _ _ _ _ (H52 W acc p5 v5 h5))
    · go_simp; exact hK _ _ (U _ _ _ _ (H55 (W.alloc (.cells #[.int .u64 0,.slice none 0 0] 25)) (acc.alloc acc.size _) p5 (v5.alloc _) h5 W.heap.size (Var.new W _ _ _ _ _ rfl) acc.size (Nat.ne_of_lt v5.lt)))
  have H57 : ∀ (W : World) (acc : Bx W3 W) (p6 : Nat) (v6 : Vx W p6 0) (h6 : W3.heap.size ≤ p6),R 12 #[Ix,Ix,Ix,Ix,Ix,Ix,Ix,Ox,Ox,Ox,Ox,Ox,Ox,Ox,Ox,Ox,Ix,Ox,Ox,Ox] { tmps := #[ρ e,u,ρ s,ρ lb,V15,u,ρ p6,u,V8,ρ e,V10,V11,V12,V8,V14,V15,V15,u,u,u,u,u,u,u,u,u,u,u,u,u,u,u,u,u,u,u,u,u,u,u,ρ e,ρ e,ρ e,ς ga 1 ca,ν 4,ρ e,ρ e,u,u,u,u,u,u,u,u,u,u,u,u,u,u,u,u,u,u,u,u,u,u,u,u,u,u,u],defers := [] } W := by
    intro W acc p6 v6 h6
    rw [← hR]
    dsimp only [ρ,ς,ν]
    have e1 := (he.below acc zE).cell1
    refine wpAnyIn_ready (rs := [7,15]) (by kernel_rfl) (by simp) (AllReadyIn.cons rfl (fun K hK => ?_) (AllReadyIn.cons rfl (fun K hK => ?_) (AllReadyIn.nil)))
    · go_simp; exact hK _ _ (U _ _ _ _ (H53 W acc p6 v6 h6))
    · go_simp; exact hK _ _ (U _ _ _ _ (H55 (W.alloc (.cells #[.int .u64 0,.slice none 0 0] 25)) (acc.alloc acc.size _) W.heap.size (Var.new W _ _ _ _ _ rfl) acc.size p6 (v6.alloc _) h6 (Nat.ne_of_gt v6.lt)))
  have H58 : ∀ (W : World) (acc : Bx W3 W),R 13 #[Ix,Ix,Ix,Ix,Ix,Ix,Ix,Ox,Ox,Ox,Ox,Ox,Ox,Ox,Ox,Ox,Ox,Ox,Ox,Ox] { tmps := #[ρ e,u,ρ s,ρ lb,V15,u,u,u,V8,ρ e,V10,V11,V12,V8,V14,V15,V15,u,u,u,u,u,u,u,u,u,u,u,u,u,u,u,u,u,u,u,u,u,u,u,ρ e,ρ e,ρ e,ς ga 1 ca,ν 4,ρ e,ρ e,u,u,u,u,u,u,u,u,u,u,u,u,u,u,u,u,u,u,u,u,u,u,u,u,u,u,u],defers := [] } W := by
    intro W acc
    rw [← hR]
    dsimp only [ρ,ς,ν]
    have e1 := (he.below acc zE).cell1
    refine wpAnyIn_ready (rs := [7,15,16]) (by kernel_rfl) (by simp) (AllReadyIn.cons rfl (fun K hK => ?_) (AllReadyIn.cons rfl (fun K hK => ?_) (AllReadyIn.cons rfl (fun K hK => ?_) (AllReadyIn.nil))))
    · go_simp; exact hK _ _ (U _ _ _ _ (H54 W acc))
    · go_simp; exact hK _ _ (U _ _ _ _ (H56 (W.alloc (.cells #[.int .u64 0,.slice none 0 0] 25)) (acc.alloc acc.size _) W.heap.size (Var.new W _ _ _ _ _ rfl) acc.size))
    · go_simp; exact hK _ _ (U _ _ _ _ (H57 (W.alloc (.cells #[.int .u64 0,.slice none 0 0] 25)) (acc.alloc acc.size _) W.heap.size (Var.new W _ _ _ _ _ rfl) acc.size))
  have H59 : ∀ (W : World) (acc : Bx W3 W) (p5 : Nat) (v5 : Vx W p5 0) (h5 : W3.heap.size ≤ p5) (p6 : Nat) (v6 : Vx W p6 0) (h6 : W3.heap.size ≤ p6) (n56 : p5 ≠ p6),R 12 #[Ix,Ix,Ix,Ix,Ix,Ix,Ox,Ox,Ox,Ox,Ox,Ox,Ox,Ox,Ox,Ix,Ix,Ox,Ox,Ox] { tmps := #[ρ e,u,ρ s,ρ lb,V15,ρ p5,ρ p6,u,V8,ρ e,V10,V11,V12,V8,V14,V15,V15,u,u,u,u,u,u,u,u,u,u,u,u,u,u,u,u,u,u,u,u,u,u,u,ρ e,ρ e,ρ e,ς ga 1 ca,ν 4,ρ e,u,u,u,u,u,u,u,u,u,u,u,u,u,u,u,u,u,u,u,u,u,u,u,u,u,u,u,u],defers := [] } W := by
    intro W acc p5 v5 h5 p6 v6 h6 n56
    rw [← hR]
    dsimp only [ρ,ς,ν]
    have e1 := (he.below acc zE).cell1
    refine wpAnyIn_ready (rs := [6]) (by kernel_rfl) (by simp) (AllReadyIn.cons rfl (fun K hK => ?_) (AllReadyIn.nil))
    · go_simp; exact hK _ _ (U _ _ _ _ (H55 W acc p5 v5 h5 p6 v6 h6 n56))
  have H60 : ∀ (W : World) (acc : Bx W3 W) (p5 : Nat) (v5 : Vx W p5 0) (h5 : W3.heap.size ≤ p5),R 13 #[Ix,Ix,Ix,Ix,Ix,Ix,Ox,Ox,Ox,Ox,Ox,Ox,Ox,Ox,Ox,Ix,Ox,Ox,Ox,Ox] { tmps := #[ρ e,u,ρ s,ρ lb,V15,ρ p5,u,u,V8,ρ e,V10,V11,V12,V8,V14,V15,V15,u,u,u,u,u,u,u,u,u,u,u,u,u,u,u,u,u,u,u,u,u,u,u,ρ e,ρ e,ρ e,ς ga 1 ca,ν 4,ρ e,u,u,u,u,u,u,u,u,u,u,u,u,u,u,u,u,u,u,u,u,u,u,u,u,u,u,u,u],defers := [] } W := by
    intro W acc p5 v5 h5
    rw [← hR]
    dsimp only [ρ,ς,ν]
    have e1 := (he.below acc zE).cell1
    refine wpAnyIn_ready (rs := [6,16]) (by kernel_rfl) (by simp) (AllReadyIn.cons rfl (fun K hK => ?_) (AllReadyIn.cons rfl (fun K hK => ?_) (AllReadyIn.nil)))
    · go_simp; exact hK _ _ (U _ _ _ _ (H56 W acc p5 v5 h5))
    · go_simp; exact hK _ _ (U _ _ _ _ (H59 (W.alloc (.cells #[.int .u64 0,.slice none 0 0] 25)) (acc.alloc acc.size _) p5 (v5.alloc _) h5 W.heap.size (Var.new W _ _ _ _ _ rfl) acc.size (Nat.ne_of_lt v5.lt)))
  have H61 : ∀ (W : World) (acc : Bx W3 W) (p6 : Nat) (v6 : Vx W p6 0) (h6 : W3.heap.size ≤ p6),R 13 #[Ix,Ix,Ix,Ix,Ix,Ix,Ox,Ox,Ox,Ox,Ox,Ox,Ox,Ox,Ox,Ox,Ix,Ox,Ox,Ox] { tmps := #[ρ e,u,ρ s,ρ lb,V15,u,ρ p6,u,V8,ρ e,V10,V11,V12,V8,V14,V15,V15,u,u,u,u,u,u,u,u,u,u,u,u,u,u,u,u,u,u,u,u,u,u,u,ρ e,ρ e,ρ e,ς ga 1 ca,ν 4,ρ e,u,u,u,u,u,u,u,u,u,u,u,u,u,u,u,u,u,u,u,u,u,u,u,u,u,u,u,u],defers := [] } W := by
    intro W acc p6 v6 h6
    rw [← hR]
    dsimp only [ρ,ς,ν]
    have e1 := (he.below acc zE).cell1
    refine wpAnyIn_ready (rs := [6,15]) (by kernel_rfl) (by simp) (AllReadyIn.cons rfl (fun K hK => ?_) (AllReadyIn.cons rfl (fun K hK => ?_) (AllReadyIn.nil)))
    · go_simp; exact hK _ _ (U _ _ _ _ (H57 W acc p6 v6 h6))
    · go_simp; exact hK _ _ (U _ _ _ _ (H59 (W.alloc (.cells #[.int .u64 0,.slice none 0 0] 25)) (acc.alloc acc.size _) W.heap.size (Var.new W _ _ _ _ _ rfl) acc.size p6 (v6.alloc _) h6 (Nat.ne_of_gt v6.lt)))
  have H62 : ∀ (W : World) (acc : Bx W3 W),R 14 #[Ix,Ix,Ix,Ix,Ix,Ix,Ox,Ox,Ox,Ox,Ox,Ox,Ox,Ox,Ox,Ox,Ox,Ox,Ox,Ox] { tmps := #[ρ e,u,ρ s,ρ lb,V15,u,u,u,V8,ρ e,V10,V11,V12,V8,V14,V15,V15,u,u,u,u,u,u,u,u,u,u,u,u,u,u,u,u,u,u,u,u,u,u,u,ρ e,ρ e,ρ e,ς ga 1 ca,ν 4,ρ e,u,u,u,u,u,u,u,u,u,u,u,u,u,u,u,u,u,u,u,u,u,u,u,u,u,u,u,u],defers := [] } W := by
    intro W acc
    rw [← hR]
    dsimp only [ρ,ς,ν]
    have e1 := (he.below acc zE).cell1
    refine wpAnyIn_ready (rs := [6,15,16]) (by kernel_rfl) (by simp) (AllReadyIn.cons rfl (fun K hK => ?_) (AllReadyIn.cons rfl (fun K hK => ?_) (AllReadyIn.cons rfl (fun K hK => ?_) (AllReadyIn.nil))))
    · go_simp; exact hK _ _ (U _ _ _ _ (H58 W acc))
    · go_simp; exact hK _ _ (U _ _ _ _ (H60 (W.alloc (.cells #[.int .u64 0,.slice none 0 0] 25)) (acc.alloc acc.size _) W.heap.size (Var.new W _ _ _ _ _ rfl) acc.size))
    · go_simp; exact hK _ _ (U _ _ _ _ (H61 (W.alloc (.cells #[.int .u64 0,.slice none 0 0] 25)) (acc.alloc acc.size _) W.heap.size (Var.new W _ _ _ _ _ rfl) acc.size))
  have H63 : ∀ (W : World) (acc : Bx W3 W) (p5 : Nat) (v5 : Vx W p5 0) (h5 : W3.heap.size ≤ p5) (p6 : Nat) (v6 : Vx W p6 0) (h6 : W3.heap.size ≤ p6) (n56 : p5 ≠ p6),R 13 #[Ix,Ix,Ix,Ix,Ix,Ox,Ox,Ox,Ox,Ox,Ox,Ox,Ox,Ox,Ox,Ix,Ix,Ox,Ox,Ox] { tmps := #[ρ e,u,ρ s,ρ lb,V15,ρ p5,ρ p6,u,V8,ρ e,V10,V11,V12,V8,V14,V15,V15,u,u,u,u,u,u,u,u,u,u,u,u,u,u,u,u,u,u,u,u,u,u,u,ρ e,ρ e,ρ e,ς ga 1 ca,ν 4,u,u,u,u,u,u,u,u,u,u,u,u,u,u,u,u,u,u,u,u,u,u,u,u,u,u,u,u,u],defers := [] } W := by
    intro W acc p5 v5 h5 p6 v6 h6 n56
    rw [← hR]
    dsimp only [ρ,ς,ν]
    have e1 := (he.below acc zE).cell1
    refine wpAnyIn_ready (rs := [5]) (by kernel_rfl) (by simp) (AllReadyIn.cons rfl (fun K hK => ?_) (AllReadyIn.nil))
    · go_simp; exact hK _ _ (U _ _ _ _ (H59 W acc p5 v5 h5 p6 v6 h6 n56))
  have H64 : ∀ (W : World) (acc : Bx W3 W) (p5 : Nat) (v5 : Vx W p5 0) (h5 : W3.heap.size ≤ p5),R 14 #[Ix,Ix,Ix,Ix,Ix,Ox,Ox,Ox,Ox,Ox,Ox,Ox,Ox,Ox,Ox,Ix,Ox,Ox,Ox,Ox] { tmps := #[ρ e,u,ρ s,ρ lb,V15,ρ p5,u,u,V8,ρ e,V10,V11,V12,V8,V14,V15,V15,u,u,u,u,u,u,u,u,u,u,u,u,u,u,u,u,u,u,u,u,u,u,u,ρ e,ρ e,ρ e,ς ga 1 ca,ν 4,u,u,u,u,u,u,u,u,u,u,u,u,u,u,u,u,u,u,u,u,u,u,u,u,u,u,u,u,u],defers := [] } W := by
    intro W acc p5 v5 h5
    rw [← hR]
    dsimp only [ρ,ς,ν]
    have e1 := (he.below acc zE).cell1
    refine wpAnyIn_ready (rs := [5,16]) (by kernel_rfl) (by simp) (AllReadyIn.cons rfl (fun K hK => ?_) (AllReadyIn.cons rfl (fun K hK => ?_) (AllReadyIn.nil)))
    · go_simp; exact hK _ _ (U _ _ _ _ (H60 W acc p5 v5 h5))
    · go_simp; exact hK _ _ (U _ _ _ _ (H63 (W.alloc (.cells #[.int .u64 0,.slice none 0 0] 25)) (acc.alloc acc.size _) p5 (v5.alloc _) h5 W.heap.size (Var.new W _ _ _ _ _ rfl) acc.size (Nat.ne_of_lt v5.lt)))
  have H65 : ∀ (W : World) (acc : Bx W3 W) (p6 : Nat) (v6 : Vx W p6 0) (h6 : W3.heap.size ≤ p6),R 14 #[Ix,Ix,Ix,Ix,Ix,Ox,Ox,Ox,Ox,Ox,Ox,Ox,Ox,Ox,Ox,Ox,Ix,Ox,Ox,Ox] { tmps := #[ρ e,u,ρ s,ρ lb,V15,u,ρ p6,u,V8,ρ e,V10,V11,V12,V8,V14,V15,V15,u,u,u,u,u,u,u,u,u,u,u,u,u,u,u,u,u,u,u,u,u,u,u,ρ e,ρ e,ρ e,ς ga 1 ca,ν 4,u,u,u,u,u,u,u,u,u,u,u,u,u,u,u,u,u,u,u,u,u,u,u,u,u,u,u,u,u],defers := [] } W := by
    intro W acc p6 v6 h6
    rw [← hR]
    dsimp only [ρ,ς,ν]
    have e1 := (he.below acc zE).cell1
    refine wpAnyIn_ready (rs := [5,15]) (by kernel_rfl) (by simp) (AllReadyIn.cons rfl (fun K hK => ?_) (AllReadyIn.cons rfl (fun K hK => ?_) (AllReadyIn.nil)))
    · go_simp; exact hK _ _ (U _ _ _ _ (H61 W acc p6 v6 h6))
    · go_simp; exact hK _ _ (U _ _ _ _ (H63 (W.alloc (.cells #[.int .u64 0,.slice none 0 0] 25)) (acc.alloc acc.size _) W.heap.size (Var.new W _ _ _ _ _ rfl) acc.size p6 (v6.alloc _) h6 (Nat.ne_of_gt v6.lt)))
  have H66 : ∀ (W : World) (acc : Bx W3 W),R 15 #[Ix,Ix,Ix,Ix,Ix,Ox,Ox,Ox,Ox,Ox,Ox,Ox,Ox,Ox,Ox,Ox,Ox,Ox,Ox,Ox] { tmps := #[ρ e,u,ρ s,ρ lb,V15,u,u,u,V8,ρ e,V10,V11,V12,V8,V14,V15,V15,u,u,u,u,u,u,u,u,u,u,u,u,u,u,u,u,u,u,u,u,u,u,u,ρ e,ρ e,ρ e,ς ga 1 ca,ν 4,u,u,u,u,u,u,u,u,u,u,u,u,u,u,u,u,u,u,u,u,u,u,u,u,u,u,u,u,u],defers := [] } W := by
    intro W acc
    rw [← hR]
    dsimp only [ρ,ς,ν]
    have e1 := (he.below acc zE).cell1
    refine wpAnyIn_ready (rs := [5,15,16]) (by kernel_rfl) (by simp) (AllReadyIn.cons rfl (fun K hK => ?_) (AllReadyIn.cons rfl (fun K hK => ?_) (AllReadyIn.cons rfl (fun K hK => ?_) (AllReadyIn.nil))))
    · go_simp; exact hK _ _ (U _ _ _ _ (H62 W acc))
    · go_simp; exact hK _ _ (U _ _ _ _ (H64 (W.alloc (.cells #[.int .u64 0,.slice none 0 0] 25)) (acc.alloc acc.size _) W.heap.size (Var.new W _ _ _ _ _ rfl) acc.size))
    · go_simp; exact hK _ _ (U _ _ _ _ (H65 (W.alloc (.cells #[.int .u64 0,.slice none 0 0] 25)) (acc.alloc acc.size _) W.heap.size (Var.new W _ _ _ _ _ rfl) acc.size))
  have H67 : ∀ (W : World) (acc : Bx W3 W) (p5 : Nat) (v5 : Vx W p5 0) (h5 : W3.heap.size ≤ p5) (p6 : Nat) (v6 : Vx W p6 0) (h6 : W3.heap.size ≤ p6) (n56 : p5 ≠ p6),R 10 #[Ix,Ix,Ix,Ix,Ox,Ix,Ix,Ix,Ix,Ox,Ox,Ox,Ox,Ox,Ox,Ix,Ix,Ox,Ox,Ox] { tmps := #[ρ e,u,ρ s,ρ lb,V15,ρ p5,ρ p6,u,V8,ρ e,V10,V11,V12,V8,V14,V15,V15,u,u,u,u,u,u,u,u,u,u,u,u,u,u,u,u,u,u,u,u,u,u,u,ρ e,ρ e,ρ e,ς ga 1 ca,u,ρ e,ρ e,.pointer (some ⟨e,1,none⟩),ς gb 1 cb,u,u,u,u,u,u,u,u,u,u,u,u,u,u,u,u,u,u,u,u,u,u,u,u,u],defers := [] } W := by
    intro W acc p5 v5 h5 p6 v6 h6 n56
    rw [← hR]
    dsimp only [ρ,ς]
    refine wpAnyIn_ready (rs := [4]) (by kernel_rfl) (by simp) (AllReadyIn.cons rfl (fun K hK => ?_) (AllReadyIn.nil))
    · go_simp
      gi_wp2_with (refine ⟨trivial,?_⟩; gi_at_call 49; refine (callsIn_wide.2 (number_one 4 (by decide) ga 22 ca W (hga.below acc hga.lt))).mono ?_; rintro e W2 ⟨rfl,hb⟩)
      exact U _ _ _ _ (H47 W2 (below_acc acc acc.size hb) p5 (v5.below hb v5.lt) h5 p6 (v6.below hb v6.lt) h6 n56)
  have H68 : ∀ (W : World) (acc : Bx W3 W) (p5 : Nat) (v5 : Vx W p5 0) (h5 : W3.heap.size ≤ p5),R 11 #[Ix,Ix,Ix,Ix,Ox,Ix,Ix,Ix,Ix,Ox,Ox,Ox,Ox,Ox,Ox,Ix,Ox,Ox,Ox,Ox] { tmps := #[ρ e,u,ρ s,ρ lb,V15,ρ p5,u,u,V8,ρ e,V10,V11,V12,V8,V14,V15,V15,u,u,u,u,u,u,u,u,u,u,u,u,u,u,u,u,u,u,u,u,u,u,u,ρ e,ρ e,ρ e,ς ga 1 ca,u,ρ e,ρ e,.pointer (some ⟨e,1,none⟩),ς gb 1 cb,u,u,u,u,u,u,u,u,u,u,u,u,u,u,u,u,u,u,u,u,u,u,u,u,u],defers := [] } W := by
    intro W acc p5 v5 h5
    rw [← hR]
    dsimp only [ρ,ς]
    refine wpAnyIn_ready (rs := [4,16]) (by kernel_rfl) (by simp) (AllReadyIn.cons rfl (fun K hK => ?_) (AllReadyIn.cons rfl (fun K hK => ?_) (AllReadyIn.nil)))
    · go_simp
      gi_wp2_with (refine ⟨trivial,?_⟩; gi_at_call 49; refine (callsIn_wide.2 (number_one 4 (by decide) ga 22 ca W (hga.below acc hga.lt))).mono ?_; rintro e W2 ⟨rfl,hb⟩)
      exact U _ _ _ _ (H48 W2 (below_acc acc acc.size hb) p5 (v5.below hb v5.lt) h5)
    · go_simp; exact hK _ _ (U _ _ _ _ (H67 (W.alloc (.cells #[.int .u64 0,.slice none 0 0] 25)) (acc.alloc acc.size _) p5 (v5.alloc _) h5 W.heap.size (Var.new W _ _ _ _ _ rfl) acc.size (Nat.ne_of_lt v5.lt)))
  have H69 : ∀ (W : World) (acc : Bx W3 W) (p6 : Nat) (v6 : Vx W p6 0) (h6 : W3.heap.size ≤ p6),R 11 #[Ix,Ix,Ix,Ix,Ox,Ix,Ix,Ix,Ix,Ox,Ox,Ox,Ox,Ox,Ox,Ox,Ix,Ox,Ox,Ox] { tmps := #[ρ e,u,ρ s,ρ lb,V15,u,ρ p6,u,V8,ρ e,V10,V11,V12,V8,V14,V15,V15,u,u,u,u,u,u,u,u,u,u,u,u,u,u,u,u,u,u,u,u,u,u,u,ρ e,ρ e,ρ e,ς ga 1 ca,u,ρ e,ρ e,.pointer (some ⟨e,1,none⟩),ς gb 1 cb,u,u,u,u,u,u,u,u,u,u,u,u,u,u,u,u,u,u,u,u,u,u,u,u,u],defers := [] } W := by
    intro W acc p6 v6 h6
    rw [← hR]
    dsimp only [ρ,ς]
    refine wpAnyIn_ready (rs := [4,15]) (by kernel_rfl) (by simp) (AllReadyIn.cons rfl (fun K hK => ?_) (AllReadyIn.cons rfl (fun K hK => ?_) (AllReadyIn.nil)))
    · go_simp
      gi_wp2_with (refine ⟨trivial,?_⟩; gi_at_call 49; refine (callsIn_wide.2 (number_one 4 (by decide) ga 22 ca W (hga.below acc hga.lt))).mono ?_; rintro e W2 ⟨rfl,hb⟩)
      exact U _ _ _ _ (H49 W2 (below_acc acc acc.size hb) p6 (v6.below hb v6.lt) h6)
    · go_simp; exact hK _ _ (U _ _ _ _ (H67 (W.alloc (.cells #[.int .u64 0,.slice none 0 0] 25)) (acc.alloc acc.size _) W.heap.size (Var.new W _ _ _ _ _ rfl) acc.size p6 (v6.alloc _) h6 (Nat.ne_of_gt v6.lt)))
  have H70 : ∀ (W : World) (acc : Bx W3 W),R 12 #[Ix,Ix,Ix,Ix,Ox,Ix,Ix,Ix,Ix,Ox,Ox,Ox,Ox,Ox,Ox,Ox,Ox,Ox,Ox,Ox] { tmps := #[ρ e,u,ρ s,ρ lb,V15,u,u,u,V8,ρ e,V10,V11,V12,V8,V14,V15,V15,u,u,u,u,u,u,u,u,u,u,u,u,u,u,u,u,u,u,u,u,u,u,u,ρ e,ρ e,ρ e,ς ga 1 ca,u,ρ e,ρ e,.pointer (some ⟨e,1,none⟩),ς gb 1 cb,u,u,u,u,u,u,u,u,u,u,u,u,u,u,u,u,u,u,u,u,u,u,u,u,u],defers := [] } W := by
    intro W acc
    rw [← hR]
    dsimp only [ρ,ς]
    refine wpAnyIn_ready (rs := [4,15,16]) (by kernel_rfl) (by simp) (AllReadyIn.cons rfl (fun K hK => ?_) (AllReadyIn.cons rfl (fun K hK => ?_) (AllReadyIn.cons rfl (fun K hK => ?_) (AllReadyIn.nil))))
    · go_simp
      gi_wp2_with (refine ⟨trivial,?_⟩; gi_at_call 49; refine (callsIn_wide.2 (number_one 4 (by decide) ga 22 ca W (hga.below acc hga.lt))).mono ?_; rintro e W2 ⟨rfl,hb⟩)
      exact U _ _ _ _ (H50 W2 (below_acc acc acc.size hb))
    · go_simp; exact hK _ _ (U _ _ _ _ (H68 (W.alloc (.cells #[.int .u64 0,.slice none 0 0] 25)) (acc.alloc acc.size _) W.heap.size (Var.new W _ _ _ _ _ rfl) acc.size))
    · go_simp; exact hK _ _ (U _ _ _ _ (H69 (W.alloc (.cells #[.int .u64 0,.slice none 0 0] 25)) (acc.alloc acc.size _) W.heap.size (Var.new W _ _ _ _ _ rfl) acc.size))
  have H71 : ∀ (W : World) (acc : Bx W3 W) (p5 : Nat) (v5 : Vx W p5 0) (h5 : W3.heap.size ≤ p5) (p6 : Nat) (v6 : Vx W p6 0) (h6 : W3.heap.size ≤ p6) (n56 : p5 ≠ p6),R 11 #[Ix,Ix,Ix,Ix,Ox,Ix,Ix,Ix,Ox,Ox,Ox,Ox,Ox,Ox,Ox,Ix,Ix,Ox,Ox,Ox] { tmps := #[ρ e,u,ρ s,ρ lb,V15,ρ p5,ρ p6,u,V8,ρ e,V10,V11,V12,V8,V14,V15,V15,u,u,u,u,u,u,u,u,u,u,u,u,u,u,u,u,u,u,u,u,u,u,u,ρ e,ρ e,ρ e,ς ga 1 ca,u,ρ e,ρ e,.pointer (some ⟨e,1,none⟩),u,u,u,u,u,u,u,u,u,u,u,u,u,u,u,u,u,u,u,u,u,u,u,u,u,u],defers := [] } W := by
    intro W acc p5 v5 h5 p6 v6 h6 n56
    rw [← hR]
    dsimp only [ρ,ς]
    have e1 := (he.below acc zE).cell1
    refine wpAnyIn_ready (rs := [4,8]) (by kernel_rfl) (by simp) (AllReadyIn.cons rfl (fun K hK => ?_) (AllReadyIn.cons rfl (fun K hK => ?_) (AllReadyIn.nil)))
    · go_simp
      gi_wp2_with (refine ⟨trivial,?_⟩; gi_at_call 49; refine (callsIn_wide.2 (number_one 4 (by decide) ga 22 ca W (hga.below acc hga.lt))).mono ?_; rintro e W2 ⟨rfl,hb⟩)
      exact U _ _ _ _ (H51 W2 (below_acc acc acc.size hb) p5 (v5.below hb v5.lt) h5 p6 (v6.below hb v6.lt) h6 n56)
    · go_simp; exact hK _ _ (U _ _ _ _ (H67 W acc p5 v5 h5 p6 v6 h6 n56))
  have H72 : ∀ (W : World) (acc : Bx W3 W) (p5 : Nat) (v5 : Vx W p5 0) (h5 : W3.heap.size ≤ p5),R 12 #[Ix,Ix,Ix,Ix,Ox,Ix,Ix,Ix,Ox,Ox,Ox,Ox,Ox,Ox,Ox,Ix,Ox,Ox,Ox,Ox] { tmps := #[ρ e,u,ρ s,ρ lb,V15,ρ p5,u,u,V8,ρ e,V10,V11,V12,V8,V14,V15,V15,u,u,u,u,u,u,u,u,u,u,u,u,u,u,u,u,u,u,u,u,u,u,u,ρ e,ρ e,ρ e,ς ga 1 ca,u,ρ e,ρ e,.pointer (some ⟨e,1,none⟩),u,u,u,u,u,u,u,u,u,u,u,u,u,u,u,u,u,u,u,u,u,u,u,u,u,u],defers := [] } W := by
    intro W acc p5 v5 h5
    rw [← hR]
    dsimp only [ρ,ς]
    have e1 := (he.below acc zE).cell1
    refine wpAnyIn_ready (rs := [4,8,16]) (by kernel_rfl) (by simp) (AllReadyIn.cons rfl (fun K hK => ?_) (AllReadyIn.cons rfl (fun K hK => ?_) (AllReadyIn.cons rfl (fun K hK => ?_) (AllReadyIn.nil))))
    · go_simp
      gi_wp2_with (refine ⟨trivial,?_⟩; gi_at_call 49; refine (callsIn_wide.2 (number_one 4 (by decide) ga 22 ca W (hga.below acc hga.lt))).mono ?_; rintro e W2 ⟨rfl,hb⟩)
      exact U _ _ _ _ (H52 W2 (below_acc acc acc.size hb) p5 (v5.below hb v5.lt) h5)
    · go_simp; exact hK _ _ (U _ _ _ _ (H68 W acc p5 v5 h5))
    · go_simp; exact hK _ _ (U _ _ _ _ (H71 (W.alloc (.cells #[.int .u64 0,.slice none 0 0] 25)) (acc.alloc acc.size _) p5 (v5.alloc _) h5 W.heap.size (Var.new W _ _ _ _ _ rfl) acc.size (Nat.ne_of_lt v5.lt)))
  have H73 : ∀ (W : World) (acc : Bx W3 W) (p6 : Nat) (v6 : Vx W p6 0) (h6 : W3.heap.size ≤ p6),R 12 #[Ix,Ix,Ix,Ix,Ox,Ix,Ix,Ix,Ox,Ox,Ox,Ox,Ox,Ox,Ox,Ox,Ix,Ox,Ox,Ox] { tmps := #[ρ e,u,ρ s,ρ lb,V15,u,ρ p6,u,V8,ρ e,V10,V11,V12,V8,V14,V15,V15,u,u,u,u,u,u,u,u,u,u,u,u,u,u,u,u,u,u,u,u,u,u,u,ρ e,ρ e,ρ e,ς ga 1 ca,u,ρ e,ρ e,.pointer (some ⟨e,1,none⟩),u,u,u,u,u,u,u,u,u,u,u,u,u,u,u,u,u,u,u,u,u,u,u,u,u,u],defers := [] } W := by
    intro W acc p6 v6 h6
    rw [← hR]
    dsimp only [ρ,ς]
    have e1 := (he.below acc zE).cell1
    refine wpAnyIn_ready (rs := [4,8,15]) (by kernel_rfl) (by simp) (AllReadyIn.cons rfl (fun K hK => ?_) (AllReadyIn.cons rfl (fun K hK => ?_) (AllReadyIn.cons rfl (fun K hK => ?_) (AllReadyIn.nil))))
    · go_simp
      gi_wp2_with (refine ⟨trivial,?_⟩; gi_at_call 49; refine (callsIn_wide.2 (number_one 4 (by decide) ga 22 ca W (hga.below acc hga.lt))).mono ?_; rintro e W2 ⟨rfl,hb⟩)
      exact U _ _ _ _ (H53 W2 (below_acc acc acc.size hb) p6 (v6.below hb v6.lt) h6)
    · go_simp; exact hK _ _ (U _ _ _ _ (H69 W acc p6 v6 h6))
    · go_simp; exact hK _ _ (U _ _ _ _ (H71 (W.alloc (.cells #[.int .u64 0,.slice none 0 0] 25)) (acc.alloc acc.size _) W.heap.size (Var.new W _ _ _ _ _ rfl) acc.size p6 (v6.alloc _) h6 (Nat.ne_of_gt v6.lt)))
  have H74 : ∀ (W : World) (acc : Bx W3 W),R 13 #[Ix,Ix,Ix,Ix,Ox,Ix,Ix,Ix,Ox,Ox,Ox,Ox,Ox,Ox,Ox,Ox,Ox,Ox,Ox,Ox] { tmps := #[ρ e,u,ρ s,ρ lb,V15,u,u,u,V8,ρ e,V10,V11,V12,V8,V14,V15,V15,u,u,u,u,u,u,u,u,u,u,u,u,u,u,u,u,u,u,u,u,u,u,u,ρ e,ρ e,ρ e,ς ga 1 ca,u,ρ e,ρ e,.pointer (some ⟨e,1,none⟩),u,u,u,u,u,u,u,u,u,u,u,u,u,u,u,u,u,u,u,u,u,u,u,u,u,u],defers := [] } W := by
    intro W acc
    rw [← hR]
    dsimp only [ρ,ς]
    have e1 := (he.below acc zE).cell1
    refine wpAnyIn_ready (rs := [4,8,15,16]) (by kernel_rfl) (by simp) (AllReadyIn.cons rfl (fun K hK => ?_) (AllReadyIn.cons rfl (fun K hK => ?_) (AllReadyIn.cons rfl (fun K hK => ?_) (AllReadyIn.cons rfl (fun K hK => ?_) (AllReadyIn.nil)))))
    · go_simp
      gi_wp2_with (refine ⟨trivial,?_⟩; gi_at_call 49; refine (callsIn_wide.2 (number_one 4 (by decide) ga 22 ca W (hga.below acc hga.lt))).mono ?_; rintro e W2 ⟨rfl,hb⟩)
      exact U _ _ _ _ (H54 W2 (below_acc acc acc.size hb))
    · go_simp; exact hK _ _ (U _ _ _ _ (H70 W acc))
    · go_simp; exact hK _ _ (U _ _ _ _ (H72 (W.alloc (.cells #[.int .u64 0,.slice none 0 0] 25)) (acc.alloc acc.size _) W.heap.size (Var.new W _ _ _ _ _ rfl) acc.size))
    · go_simp; exact hK _ _ (U _ _ _ _ (H73 (W.alloc (.cells #[.int .u64 0,.slice none 0 0] 25)) (acc.alloc acc.size _) W.heap.size (Var.new W _ _ _ _ _ rfl) acc.size))
  have H75 : ∀ (W : World) (acc : Bx W3 W) (p5 : Nat) (v5 : Vx W p5 0) (h5 : W3.heap.size ≤ p5) (p6 : Nat) (v6 : Vx W p6 0) (h6 : W3.heap.size ≤ p6) (n56 : p5 ≠ p6),R 12 #[Ix,Ix,Ix,Ix,Ox,Ix,Ix,Ox,Ox,Ox,Ox,Ox,Ox,Ox,Ox,Ix,Ix,Ox,Ox,Ox] { tmps := #[ρ e,u,ρ s,ρ lb,V15,ρ p5,ρ p6,u,V8,ρ e,V10,V11,V12,V8,V14,V15,V15,u,u,u,u,u,u,u,u,u,u,u,u,u,u,u,u,u,u,u,u,u,u,u,ρ e,ρ e,ρ e,ς ga 1 ca,u,ρ e,ρ e,u,u,u,u,u,u,u,u,u,u,u,u,u,u,u,u,u,u,u,u,u,u,u,u,u,u,u],defers := [] } W := by
    intro W acc p5 v5 h5 p6 v6 h6 n56
    rw [← hR]
    dsimp only [ρ,ς]
    have e1 := (he.below acc zE).cell1
    refine wpAnyIn_ready (rs := [4,7]) (by kernel_rfl) (by simp) (AllReadyIn.cons rfl (fun K hK => ?_) (AllReadyIn.cons rfl (fun K hK => ?_) (AllReadyIn.nil)))
    · go_simp
      gi_wp2_with (refine ⟨trivial,?_⟩; gi_at_call 49; refine (callsIn_wide.2 (number_one 4 (by decide) ga 22 ca W (hga.below acc hga.lt))).mono ?_; rintro e W2 ⟨rfl,hb⟩)
      exact U _ _ _ _ (H55 W2 (below_acc acc acc.size hb) p5 (v5.below hb v5.lt) h5 p6 (v6.below hb v6.lt) h6 n56)
    · go_simp; exact hK _ _ (U _ _ _ _ (H71 W acc p5 v5 h5 p6 v6 h6 n56))
  have H76 : ∀ (W : World) (acc : Bx W3 W) (p5 : Nat) (v5 : Vx W p5 0) (h5 : W3.heap.size ≤ p5),R 13 #[Ix,Ix,Ix,Ix,Ox,Ix,Ix,Ox,Ox,Ox,Ox,Ox,Ox,Ox,Ox,Ix,Ox,Ox,Ox,Ox] { tmps := #[ρ e,u,ρ s,ρ lb,V15,ρ p5,u,u,V8,ρ e,V10,V11,V12,V8,V14,V15,V15,u,u,u,u,u,u,u,u,u,u,u,u,u,u,u,u,u,u,u,u,u,u,u,ρ e,ρ e,ρ e,ς ga 1 ca,u,ρ e,ρ e,u,u,u,u,u,u,u,u,u,u,u,u,u,u,u,u,u,u,u,u,u,u,u,u,u,u,u],defers := [] } W := by
    intro W acc p5 v5 h5
    rw [← hR]
    dsimp only [ρ,ς]
    have e1 := (he.below acc zE).cell1
    refine wpAnyIn_ready (rs := [4,7,16]) (by kernel_rfl) (by simp) (AllReadyIn.cons rfl (fun K hK => ?_) (AllReadyIn.cons rfl (fun K hK => ?_) (AllReadyIn.cons rfl (fun K hK => ?_) (AllReadyIn.nil))))
    · go_simp
      gi_wp2_with (refine ⟨trivial,?_⟩; gi_at_call 49; refine (callsIn_wide.2 (number_one 4 (by decide) ga 22 ca W (hga.below acc hga.lt))).mono ?_; rintro e W2 ⟨rfl,hb⟩)
      exact U _ _ _ _ (H56 W2 (below_acc acc acc.size hb) p5 (v5.below hb v5.lt) h5)
    · go_simp; exact hK _ _ (U _ _ _ _ (H72 W acc p5 v5 h5))
    · go_simp; exact hK _ _ (U _ _ _ _ (H75 (W.alloc (.cells #[.int .u64 0,.slice none 0 0] 25)) (acc.alloc acc.size _) p5 (v5.alloc _) h5 W.heap.size (Var.new W _ _ _ _ _ rfl) acc.size (Nat.ne_of_lt v5.lt)))
  have H77 : ∀ (W : World) (acc : Bx W3 W) (p6 : Nat) (v6 : Vx W p6 0) (h6 : W3.heap.size ≤ p6),R 13 #[Ix,Ix,Ix,Ix,Ox,Ix,Ix,Ox,Ox,Ox,Ox,Ox,Ox,Ox,Ox,Ox,Ix,Ox,Ox,Ox] { tmps := #[ρ e,u,ρ s,ρ lb,V15,u,ρ p6,u,V8,ρ e,V10,V11,V12,V8,V14,V15,V15,u,u,u,u,u,u,u,u,u,u,u,u,u,u,u,u,u,u,u,u,u,u,u,ρ e,ρ e,ρ e,ς ga 1 ca,u,ρ e,ρ e,u,u,u,u,u,u,u,u,u,u,u,u,u,u,u,u,u,u,u,u,u,u,u,u,u,u,u],defers := [] } W := by
    intro W acc p6 v6 h6
    rw [← hR]
    dsimp only [ρ,ς]
    have e1 := (he.below acc zE).cell1
    refine wpAnyIn_ready (rs := [4,7,15]) (by kernel_rfl) (by simp) (AllReadyIn.cons rfl (fun K hK => ?_) (AllReadyIn.cons rfl (fun K hK => ?_) (AllReadyIn.cons rfl (fun K hK => ?_) (AllReadyIn.nil))))
    · go_simp
      gi_wp2_with (refine ⟨trivial,?_⟩; gi_at_call 49; refine (callsIn_wide.2 (number_one 4 (by decide) ga 22 ca W (hga.below acc hga.lt))).mono ?_; rintro e W2 ⟨rfl,hb⟩)
      exact U _ _ _ _ (H57 W2 (below_acc acc acc.size hb) p6 (v6.below hb v6.lt) h6)
    · go_simp; exact hK _ _ (U _ _ _ _ (H73 W acc p6 v6 h6))
    · go_simp; exact hK _ _ (U _ _ _ _ (H75 (W.alloc (.cells #[.int .u64 0,.slice none 0 0] 25)) (acc.alloc acc.size _) W.heap.size (Var.new W _ _ _ _ _ rfl) acc.size p6 (v6.alloc _) h6 (Nat.ne_of_gt v6.lt)))
  have H78 : ∀ (W : World) (acc : Bx W3 W),R 14 #[Ix,Ix,Ix,Ix,Ox,Ix,Ix,Ox,Ox,Ox,Ox,Ox,Ox,Ox,Ox,Ox,Ox,Ox,Ox,Ox] { tmps := #[ρ e,u,ρ s,ρ lb,V15,u,u,u,V8,ρ e,V10,V11,V12,V8,V14,V15,V15,u,u,u,u,u,u,u,u,u,u,u,u,u,u,u,u,u,u,u,u,u,u,u,ρ e,ρ e,ρ e,ς ga 1 ca,u,ρ e,ρ e,u,u,u,u,u,u,u,u,u,u,u,u,u,u,u,u,u,u,u,u,u,u,u,u,u,u,u],defers := [] } W := by
    intro W acc
    rw [← hR]
    dsimp only [ρ,ς]
    have e1 := (he.below acc zE).cell1
    refine wpAnyIn_ready (rs := [4,7,15,16]) (by kernel_rfl) (by simp) (AllReadyIn.cons rfl (fun K hK => ?_) (AllReadyIn.cons rfl (fun K hK => ?_) (AllReadyIn.cons rfl (fun K hK => ?_) (AllReadyIn.cons rfl (fun K hK => ?_) (AllReadyIn.nil)))))
    · go_simp
      gi_wp2_with (refine ⟨trivial,?_⟩; gi_at_call 49; refine (callsIn_wide.2 (number_one 4 (by decide) ga 22 ca W (hga.below acc hga.lt))).mono ?_; rintro e W2 ⟨rfl,hb⟩)
      exact U _ _ _ _ (H58 W2 (below_acc acc acc.size hb))
    · go_simp; exact hK _ _ (U _ _ _ _ (H74 W acc))
    · go_simp; exact hK _ _ (U _ _ _ _ (H76 (W.alloc (.cells #[.int .u64 0,.slice none 0 0] 25)) (acc.alloc acc.size _) W.heap.size (Var.new W _ _ _ _ _ rfl) acc.size))
    · go_simp; exact hK _ _ (U _ _ _ _ (H77 (W.alloc (.cells #[.int .u64 0,.slice none 0 0] 25)) (acc.alloc acc.size _) W.heap.size (Var.new W _ _ _ _ _ rfl) acc.size))
  have H79 : ∀ (W : World) (acc : Bx W3 W) (p5 : Nat) (v5 : Vx W p5 0) (h5 : W3.heap.size ≤ p5) (p6 : Nat) (v6 : Vx W p6 0) (h6 : W3.heap.size ≤ p6) (n56 : p5 ≠ p6),R 13 #[Ix,Ix,Ix,Ix,Ox,Ix,Ox,Ox,Ox,Ox,Ox,Ox,Ox,Ox,Ox,Ix,Ix,Ox,Ox,Ox] { tmps := #[ρ e,u,ρ s,ρ lb,V15,ρ p5,ρ p6,u,V8,ρ e,V10,V11,V12,V8,V14,V15,V15,u,u,u,u,u,u,u,u,u,u,u,u,u,u,u,u,u,u,u,u,u,u,u,ρ e,ρ e,ρ e,ς ga 1 ca,u,ρ e,u,u,u,u,u,u,u,u,u,u,u,u,u,u,u,u,u,u,u,u,u,u,u,u,u,u,u,u],defers := [] } W := by
    intro W acc p5 v5 h5 p6 v6 h6 n56
    rw [← hR]
    dsimp only [ρ,ς]
    have e1 := (he.below acc zE).cell1
    refine wpAnyIn_ready (rs := [4,6]) (by kernel_rfl) (by simp) (AllReadyIn.cons rfl (fun K hK => ?_) (AllReadyIn.cons rfl (fun K hK => ?_) (AllReadyIn.nil)))
    · go_simp
      gi_wp2_with (refine ⟨trivial,?_⟩; gi_at_call 49; refine (callsIn_wide.2 (number_one 4 (by decide) ga 22 ca W (hga.below acc hga.lt))).mono ?_; rintro e W2 ⟨rfl,hb⟩)
      exact U _ _ _ _ (H59 W2 (below_acc acc acc.size hb) p5 (v5.below hb v5.lt) h5 p6 (v6.below hb v6.lt) h6 n56)
    · go_simp; exact hK _ _ (U _ _ _ _ (H75 W acc p5 v5 h5 p6 v6 h6 n56))
  have H80 : ∀ (W : World) (acc : Bx W3 W) (p5 : Nat) (v5 : Vx W p5 0) (h5 : W3.heap.size ≤ p5),R 14 #[Ix,Ix,Ix,Ix,Ox,Ix,Ox,Ox,Ox,Ox,Ox,Ox,Ox,Ox,Ox,Ix,Ox,Ox,Ox,Ox] { tmps := #[ρ e,u,ρ s,ρ lb,V15,ρ p5,u,u,V8,ρ e,V10,V11,V12,V8,V14,V15,V15,u,u,u,u,u,u,u,u,u,u,u,u,u,u,u,u,u,u,u,u,u,u,u,ρ e,ρ e,ρ e,ς ga 1 ca,u,ρ e,u,u,u,u,u,u,u,u,u,u,u,u,u,u,u,u,u,u,u,u,u,u,u,u,u,u,u,u],defers := [] } W := by
    intro W acc p5 v5 h5
    rw [← hR]
    dsimp only [ρ,ς]
    have e1 := (he.below acc zE).cell1
    refine wpAnyIn_ready (rs := [4,6,16]) (by kernel_rfl) (by simp) (AllReadyIn.cons rfl (fun K hK => ?_) (AllReadyIn.cons rfl (fun K hK => ?_) (AllReadyIn.cons rfl (fun K hK => ?_) (AllReadyIn.nil))))
    · go_simp
      gi_wp2_with (refine ⟨trivial,?_⟩; gi_at_call 49; refine (callsIn_wide.2 (number_one 4 (by decide) ga 22 ca W (hga.below acc hga.lt))).mono ?_; rintro e W2 ⟨rfl,hb⟩)
      exact U _ _ _ _ (H60 W2 (below_acc acc acc.size hb) p5 (v5.below hb v5.lt) h5)
    · go_simp; exact hK _ _ (U _ _ _ _ (H76 W acc p5 v5 h5))
    · go_simp; exact hK _ _ (U _ _ _ _ (H79 (W.alloc (.cells #[.int .u64 0,.slice none 0 0] 25)) (acc.alloc acc.size _) p5 (v5.alloc _) h5 W.heap.size (Var.new W _ _ _ _ _ rfl) acc.size (Nat.ne_of_lt v5.lt)))
  have H81 : ∀ (W : World) (acc : Bx W3 W) (p6 : Nat) (v6 : Vx W p6 0) (h6 : W3.heap.size ≤ p6),R 14 #[Ix,Ix,Ix,Ix,Ox,Ix,Ox,Ox,Ox,Ox,Ox,Ox,Ox,Ox,Ox,Ox,Ix,Ox,Ox,Ox] { tmps := #[ρ e,u,ρ s,ρ lb,V15,u,ρ p6,u,V8,ρ e,V10,V11,V12,V8,V14,V15,V15,u,u,u,u,u,u,u,u,u,u,u,u,u,u,u,u,u,u,u,u,u,u,u,ρ e,ρ e,ρ e,ς ga 1 ca,u,ρ e,u,u,u,u,u,u,u,u,u,u,u,u,u,u,u,u,u,u,u,u,u,u,u,u,u,u,u,u],defers := [] } W := by
    intro W acc p6 v6 h6
    rw [← hR]
    dsimp only [ρ,ς]
    have e1 := (he.below acc zE).cell1
    refine wpAnyIn_ready (rs := [4,6,15]) (by kernel_rfl) (by simp) (AllReadyIn.cons rfl (fun K hK => ?_) (AllReadyIn.cons rfl (fun K hK => ?_) (AllReadyIn.cons rfl (fun K hK => ?_) (AllReadyIn.nil))))
    · go_simp
      gi_wp2_with (refine ⟨trivial,?_⟩; gi_at_call 49; refine (callsIn_wide.2 (number_one 4 (by decide) ga 22 ca W (hga.below acc hga.lt))).mono ?_; rintro e W2 ⟨rfl,hb⟩)
      exact U _ _ _ _ (H61 W2 (below_acc acc acc.size hb) p6 (v6.below hb v6.lt) h6)
    · go_simp; exact hK _ _ (U _ _ _ _ (H77 W acc p6 v6 h6))
    · go_simp; exact hK _ _ (U _ _ _ _ (H79 (W.alloc (.cells #[.int .u64 0,.slice none 0 0] 25)) (acc.alloc acc.size _) W.heap.size (Var.new W _ _ _ _ _ rfl) acc.size p6 (v6.alloc _) h6 (Nat.ne_of_gt v6.lt)))
  have H82 : ∀ (W : World) (acc : Bx W3 W),R 15 #[Ix,Ix,Ix,Ix,Ox,Ix,Ox,Ox,Ox,Ox,Ox,Ox,Ox,Ox,Ox,Ox,Ox,Ox,Ox,Ox] { tmps := #[ρ e,u,ρ s,ρ lb,V15,u,u,u,V8,ρ e,V10,V11,V12,V8,V14,V15,V15,u,u,u,u,u,u,u,u,u,u,u,u,u,u,u,u,u,u,u,u,u,u,u,ρ e,ρ e,ρ e,ς ga 1 ca,u,ρ e,u,u,u,u,u,u,u,u,u,u,u,u,u,u,u,u,u,u,u,u,u,u,u,u,u,u,u,u],defers := [] } W := by
    intro W acc
    rw [← hR]
    dsimp only [ρ,ς]
    have e1 := (he.below acc zE).cell1
    refine wpAnyIn_ready (rs := [4,6,15,16]) (by kernel_rfl) (by simp) (AllReadyIn.cons rfl (fun K hK => ?_) (AllReadyIn.cons rfl (fun K hK => ?_) (AllReadyIn.cons rfl (fun K hK => ?_) (AllReadyIn.cons rfl (fun K hK => ?_) (AllReadyIn.nil)))))
    · go_simp
      gi_wp2_with (refine ⟨trivial,?_⟩; gi_at_call 49; refine (callsIn_wide.2 (number_one 4 (by decide) ga 22 ca W (hga.below acc hga.lt))).mono ?_; rintro e W2 ⟨rfl,hb⟩)
      exact U _ _ _ _ (H62 W2 (below_acc acc acc.size hb))
    · go_simp; exact hK _ _ (U _ _ _ _ (H78 W acc))
    · go_simp; exact hK _ _ (U _ _ _ _ (H80 (W.alloc (.cells #[.int .u64 0,.slice none 0 0] 25)) (acc.alloc acc.size _) W.heap.size (Var.new W _ _ _ _ _ rfl) acc.size))
    · go_simp; exact hK _ _ (U _ _ _ _ (H81 (W.alloc (.cells #[.int .u64 0,.slice none 0 0] 25)) (acc.alloc acc.size _) W.heap.size (Var.new W _ _ _ _ _ rfl) acc.size))
  have H83 : ∀ (W : World) (acc : Bx W3 W) (p5 : Nat) (v5 : Vx W p5 0) (h5 : W3.heap.size ≤ p5) (p6 : Nat) (v6 : Vx W p6 0) (h6 : W3.heap.size ≤ p6) (n56 : p5 ≠ p6),R 14 #[Ix,Ix,Ix,Ix,Ox,Ox,Ox,Ox,Ox,Ox,Ox,Ox,Ox,Ox,Ox,Ix,Ix,Ox,Ox,Ox] { tmps := #[ρ e,u,ρ s,ρ lb,V15,ρ p5,ρ p6,u,V8,ρ e,V10,V11,V12,V8,V14,V15,V15,u,u,u,u,u,u,u,u,u,u,u,u,u,u,u,u,u,u,u,u,u,u,u,ρ e,ρ e,ρ e,ς ga 1 ca,u,u,u,u,u,u,u,u,u,u,u,u,u,u,u,u,u,u,u,u,u,u,u,u,u,u,u,u,u,u],defers := [] } W := by
    intro W acc p5 v5 h5 p6 v6 h6 n56
    rw [← hR]
    dsimp only [ρ,ς]
    have e1 := (he.below acc zE).cell1
    refine wpAnyIn_ready (rs := [4,5]) (by kernel_rfl) (by simp) (AllReadyIn.cons rfl (fun K hK => ?_) (AllReadyIn.cons rfl (fun K hK => ?_) (AllReadyIn.nil)))
    · go_simp
      gi_wp2_with (refine ⟨trivial,?_⟩; gi_at_call 49; refine (callsIn_wide.2 (number_one 4 (by decide) ga 22 ca W (hga.below acc hga.lt))).mono ?_; rintro e W2 ⟨rfl,hb⟩)
      exact U _ _ _ _ (H63 W2 (below_acc acc acc.size hb) p5 (v5.below hb v5.lt) h5 p6 (v6.below hb v6.lt) h6 n56)
    · go_simp; exact hK _ _ (U _ _ _ _ (H79 W acc p5 v5 h5 p6 v6 h6 n56))
  have H84 : ∀ (W : World) (acc : Bx W3 W) (p5 : Nat) (v5 : Vx W p5 0) (h5 : W3.heap.size ≤ p5),R 15 #[Ix,Ix,Ix,Ix,Ox,Ox,Ox,Ox,Ox,Ox,Ox,Ox,Ox,Ox,Ox,Ix,Ox,Ox,Ox,Ox] { tmps := #[ρ e,u,ρ s,ρ lb,V15,ρ p5,u,u,V8,ρ e,V10,V11,V12,V8,V14,V15,V15,u,u,u,u,u,u,u,u,u,u,u,u,u,u,u,u,u,u,u,u,u,u,u,ρ e,ρ e,ρ e,ς ga 1 ca,u,u,u,u,u,u,u,u,u,u,u,u,u,u,u,u,u,u,u,u,u,u,u,u,u,u,u,u,u,u],defers := [] } W := by
    intro W acc p5 v5 h5
    rw [← hR]
    dsimp only [ρ,ς]
    have e1 := (he.below acc zE).cell1
    refine wpAnyIn_ready (rs := [4,5,16]) (by kernel_rfl) (by simp) (AllReadyIn.cons rfl (fun K hK => ?_) (AllReadyIn.cons rfl (fun K hK => ?_) (AllReadyIn.cons rfl (fun K hK => ?_) (AllReadyIn.nil))))
    · go_simp
      gi_wp2_with (refine ⟨trivial,?_⟩; gi_at_call 49; refine (callsIn_wide.2 (number_one 4 (by decide) ga 22 ca W (hga.below acc hga.lt))).mono ?_; rintro e W2 ⟨rfl,hb⟩)
      exact U _ _ _ _ (H64 W2 (below_acc acc acc.size hb) p5 (v5.below hb v5.lt) h5)
    · go_simp; exact hK _ _ (U _ _ _ _ (H80 W acc p5 v5 h5))
    · go_simp; exact hK _ _ (U _ _ _ _ (H83 (W.alloc (.cells #[.int .u64 0,.slice none 0 0] 25)) (acc.alloc acc.size _) p5 (v5.alloc _) h5 W.heap.size (Var.new W _ _ _ _ _ rfl) acc.size (Nat.ne_of_lt v5.lt)))
  have H85 : ∀ (W : World) (acc : Bx W3 W) (p6 : Nat) (v6 : Vx W p6 0) (h6 : W3.heap.size ≤ p6),R 15 #[Ix,Ix,Ix,Ix,Ox,Ox,Ox,Ox,Ox,Ox,Ox,Ox,Ox,Ox,Ox,Ox,Ix,Ox,Ox,Ox] { tmps := #[ρ e,u,ρ s,ρ lb,V15,u,ρ p6,u,V8,ρ e,V10,V11,V12,V8,V14,V15,V15,u,u,u,u,u,u,u,u,u,u,u,u,u,u,u,u,u,u,u,u,u,u,u,ρ e,ρ e,ρ e,ς ga 1 ca,u,u,u,u,u,u,u,u,u,u,u,u,u,u,u,u,u,u,u,u,u,u,u,u,u,u,u,u,u,u],defers := [] } W := by
    intro W acc p6 v6 h6
    rw [← hR]
    dsimp only [ρ,ς]
    have e1 := (he.below acc zE).cell1
    refine wpAnyIn_ready (rs := [4,5,15]) (by kernel_rfl) (by simp) (AllReadyIn.cons rfl (fun K hK => ?_) (AllReadyIn.cons rfl (fun K hK => ?_) (AllReadyIn.cons rfl (fun K hK => ?_) (AllReadyIn.nil))))
    · go_simp
      gi_wp2_with (refine ⟨trivial,?_⟩; gi_at_call 49; refine (callsIn_wide.2 (number_one 4 (by decide) ga 22 ca W (hga.below acc hga.lt))).mono ?_; rintro e W2 ⟨rfl,hb⟩)
      exact U _ _ _ _ (H65 W2 (below_acc acc acc.size hb) p6 (v6.below hb v6.lt) h6)
    · go_simp; exact hK _ _ (U _ _ _ _ (H81 W acc p6 v6 h6))
    · go_simp; exact hK _ _ (U _ _ _ _ (H83 (W.alloc (.cells #[.int .u64 0,.slice none 0 0] 25)) (acc.alloc acc.size _) W.heap.size (Var.new W _ _ _ _ _ rfl) acc.size p6 (v6.alloc _) h6 (Nat.ne_of_gt v6.lt)))
  have H86 : ∀ (W : World) (acc : Bx W3 W),R 16 #[Ix,Ix,Ix,Ix,Ox,Ox,Ox,Ox,Ox,Ox,Ox,Ox,Ox,Ox,Ox,Ox,Ox,Ox,Ox,Ox] { tmps := #[ρ e,u,ρ s,ρ lb,V15,u,u,u,V8,ρ e,V10,V11,V12,V8,V14,V15,V15,u,u,u,u,u,u,u,u,u,u,u,u,u,u,u,u,u,u,u,u,u,u,u,ρ e,ρ e,ρ e,ς ga 1 ca,u,u,u,u,u,u,u,u,u,u,u,u,u,u,u,u,u,u,u,u,u,u,u,u,u,u,u,u,u,u],defers := [] } W := by
    intro W acc
    rw [← hR]
    dsimp only [ρ,ς]
    have e1 := (he.below acc zE).cell1
    refine wpAnyIn_ready (rs := [4,5,15,16]) (by kernel_rfl) (by simp) (AllReadyIn.cons rfl (fun K hK => ?_) (AllReadyIn.cons rfl (fun K hK => ?_) (AllReadyIn.cons rfl (fun K hK => ?_) (AllReadyIn.cons rfl (fun K hK => ?_) (AllReadyIn.nil)))))
    · go_simp
      gi_wp2_with (refine ⟨trivial,?_⟩; gi_at_call 49; refine (callsIn_wide.2 (number_one 4 (by decide) ga 22 ca W (hga.below acc hga.lt))).mono ?_; rintro e W2 ⟨rfl,hb⟩)
      exact U _ _ _ _ (H66 W2 (below_acc acc acc.size hb))
    · go_simp; exact hK _ _ (U _ _ _ _ (H82 W acc))
    · go_simp; exact hK _ _ (U _ _ _ _ (H84 (W.alloc (.cells #[.int .u64 0,.slice none 0 0] 25)) (acc.alloc acc.size _) W.heap.size (Var.new W _ _ _ _ _ rfl) acc.size))
    · go_simp; exact hK _ _ (U _ _ _ _ (H85 (W.alloc (.cells #[.int .u64 0,.slice none 0 0] 25)) (acc.alloc acc.size _) W.heap.size (Var.new W _ _ _ _ _ rfl) acc.size))
  have H87 : ∀ (W : World) (acc : Bx W3 W) (p5 : Nat) (v5 : Vx W p5 0) (h5 : W3.heap.size ≤ p5) (p6 : Nat) (v6 : Vx W p6 0) (h6 : W3.heap.size ≤ p6) (n56 : p5 ≠ p6),R 11 #[Ix,Ix,Ix,Ox,Ox,Ix,Ix,Ix,Ix,Ox,Ox,Ox,Ox,Ox,Ox,Ix,Ix,Ox,Ox,Ox] { tmps := #[ρ e,u,ρ s,ρ lb,V15,ρ p5,ρ p6,u,V8,ρ e,V10,V11,V12,V8,V14,V15,V15,u,u,u,u,u,u,u,u,u,u,u,u,u,u,u,u,u,u,u,u,u,u,u,ρ e,ρ e,ρ e,u,u,ρ e,ρ e,.pointer (some ⟨e,1,none⟩),ς gb 1 cb,u,u,u,u,u,u,u,u,u,u,u,u,u,u,u,u,u,u,u,u,u,u,u,u,u],defers := [] } W := by
    intro W acc p5 v5 h5 p6 v6 h6 n56
    rw [← hR]
    dsimp only [ρ,ς]
    have e0 := (he.below acc zE).cell0
    refine wpAnyIn_ready (rs := [3]) (by kernel_rfl) (by simp) (AllReadyIn.cons rfl (fun K hK => ?_) (AllReadyIn.nil))
    · go_simp; exact hK _ _ (U _ _ _ _ (H67 W acc p5 v5 h5 p6 v6 h6 n56))
  have H88 : ∀ (W : World) (acc : Bx W3 W) (p5 : Nat) (v5 : Vx W p5 0) (h5 : W3.heap.size ≤ p5),R 12 #[Ix,Ix,Ix,Ox,Ox,Ix,Ix,Ix,Ix,Ox,Ox,Ox,Ox,Ox,Ox,Ix,Ox,Ox,Ox,Ox] { tmps := #[ρ e,u,ρ s,ρ lb,V15,ρ p5,u,u,V8,ρ e,V10,V11,V12,V8,V14,V15,V15,u,u,u,u,u,u,u,u,u,u,u,u,u,u,u,u,u,u,u,u,u,u,u,ρ e,ρ e,ρ e,u,u,ρ e,ρ e,.pointer (some ⟨e,1,none⟩),ς gb 1 cb,u,u,u,u,u,u,u,u,u,u,u,u,u,u,u,u,u,u,u,u,u,u,u,u,u],defers := [] } W := by
    intro W acc p5 v5 h5
    rw [← hR]
    dsimp only [ρ,ς]
    have e0 := (he.below acc zE).cell0
    refine wpAnyIn_ready (rs := [3,16]) (by kernel_rfl) (by simp) (AllReadyIn.cons rfl (fun K hK => ?_) (AllReadyIn.cons rfl (fun K hK => ?_) (AllReadyIn.nil)))
    · go_simp; exact hK _ _ (U _ _ _ _ (H68 W acc p5 v5 h5))
    · go_simp; exact hK _ _ (U _ _ _ _ (H87 (W.alloc (.cells #[.int .u64 0,.slice none 0 0] 25)) (acc.alloc acc.size _) p5 (v5.alloc _) h5 W.heap.size (Var.new W _ _ _ _ _ rfl) acc.size (Nat.ne_of_lt v5.lt)))
  have H89 : ∀ (W : World) (acc : Bx W3 W) (p6 : Nat) (v6 : Vx W p6 0) (h6 : W3.heap.size ≤ p6),R 12 #[Ix,Ix,Ix,Ox,Ox,Ix,Ix,Ix,Ix,Ox,Ox,Ox,Ox,Ox,Ox,Ox,Ix,Ox,Ox,Ox] { tmps := #[ρ e,u,ρ s,ρ lb,V15,u,ρ p6,u,V8,ρ e,V10,V11,V12,V8,V14,V15,V15,u,u,u,u,u,u,u,u,u,u,u,u,u,u,u,u,u,u,u,u,u,u,u,ρ e,ρ e,ρ e,u,u,ρ e,ρ e,.pointer (some ⟨e,1,none⟩),ς gb 1 cb,u,u,u,u,u,u,u,u,u,u,u,u,u,u,u,u,u,u,u,u,u,u,u,u,u],defers := [] } W := by
    intro W acc p6 v6 h6
    rw [← hR]
    dsimp only [ρ,ς]
    have e0 := (he.below acc zE).cell0
    refine wpAnyIn_ready (rs := [3,15]) (by kernel_rfl) (by simp) (AllReadyIn.cons rfl (fun K hK => ?_) (AllReadyIn.cons rfl (fun K hK => ?_) (AllReadyIn.nil)))
    · go_simp; exact hK _ _ (U _ _ _ _ (H69 W acc p6 v6 h6))
    · go_simp; exact hK _ _ (U _ _ _ _ (H87 (W.alloc (.cells #[.int .u64 0,.slice none 0 0] 25)) (acc.alloc acc.size _) W.heap.size (Var.new W _ _ _ _ _ rfl) acc.size p6 (v6.alloc _) h6 (Nat.ne_of_gt v6.lt)))
  have H90 : ∀ (W : World) (acc : Bx W3 W),R 13 #[Ix,Ix,Ix,Ox,Ox,Ix,Ix,Ix,Ix,Ox,Ox,Ox,Ox,Ox,Ox,Ox,Ox,Ox,Ox,Ox] { tmps := #[ρ e,u,ρ s,ρ lb,V15,u,u,u,V8,ρ e,V10,V11,V12,V8,V14,V15,V15,u,u,u,u,u,u,u,u,u,u,u,u,u,u,u,u,u,u,u,u,u,u,u,ρ e,ρ e,ρ e,u,u,ρ e,ρ e,.pointer (some ⟨e,1,none⟩),ς gb 1 cb,u,u,u,u,u,u,u,u,u,u,u,u,u,u,u,u,u,u,u,u,u,u,u,u,u],defers := [] } W := by
    intro W acc
    rw [← hR]
    dsimp only [ρ,ς]
    have e0 := (he.below acc zE).cell0
    refine wpAnyIn_ready (rs := [3,15,16]) (by kernel_rfl) (by simp) (AllReadyIn.cons rfl (fun K hK => ?_) (AllReadyIn.cons rfl (fun K hK => ?_) (AllReadyIn.cons rfl (fun K hK => ?_) (AllReadyIn.nil))))
    · go_simp; exact hK _ _ (U _ _ _ _ (H70 W acc))
    · go_simp; exact hK _ _ (U _ _ _ _ (H88 (W.alloc (.cells #[.int .u64 0,.slice none 0 0] 25)) (acc.alloc acc.size _) W.heap.size (Var.new W _ _ _ _ _ rfl) acc.size))
    · go_simp; exact hK _ _ (U _ _ _ _ (H89 (W.alloc (.cells #[.int .u64 0,.slice none 0 0] 25)) (acc.alloc acc.size _) W.heap.size (Var.new W _ _ _ _ _ rfl) acc.size))
  have H91 : ∀ (W : World) (acc : Bx W3 W) (p5 : Nat) (v5 : Vx W p5 0) (h5 : W3.heap.size ≤ p5) (p6 : Nat) (v6 : Vx W p6 0) (h6 : W3.heap.size ≤ p6) (n56 : p5 ≠ p6),R 12 #[Ix,Ix,Ix,Ox,Ox,Ix,Ix,Ix,Ox,Ox,Ox,Ox,Ox,Ox,Ox,Ix,Ix,Ox,Ox,Ox] { tmps := #[ρ e,u,ρ s,ρ lb,V15,ρ p5,ρ p6,u,V8,ρ e,V10,V11,V12,V8,V14,V15,V15,u,u,u,u,u,u,u,u,u,u,u,u,u,u,u,u,u,u,u,u,u,u,u,ρ e,ρ e,ρ e,u,u,ρ e,ρ e,.pointer (some ⟨e,1,none⟩),u,u,u,u,u,u,u,u,u,u,u,u,u,u,u,u,u,u,u,u,u,u,u,u,u,u],defers := [] } W := by
    intro W acc p5 v5 h5 p6 v6 h6 n56
    rw [← hR]
    dsimp only [ρ]
    have e0 := (he.below acc zE).cell0
    have e1 := (he.below acc zE).cell1
    refine wpAnyIn_ready (rs := [3,8]) (by kernel_rfl) (by simp) (AllReadyIn.cons rfl (fun K hK => ?_) (AllReadyIn.cons rfl (fun K hK => ?_) (AllReadyIn.nil)))
    · go_simp; exact hK _ _ (U _ _ _ _ (H71 W acc p5 v5 h5 p6 v6 h6 n56))
    · go_simp; exact hK _ _ (U _ _ _ _ (H87 W acc p5 v5 h5 p6 v6 h6 n56))
  have H92 : ∀ (W : World) (acc : Bx W3 W) (p5 : Nat) (v5 : Vx W p5 0) (h5 : W3.heap.size ≤ p5),R 13 #[Ix,Ix,Ix,Ox,Ox,Ix,Ix,Ix,Ox,Ox,Ox,Ox,Ox,Ox,Ox,Ix,Ox,Ox,Ox,Ox] { tmps := #[ρ e,u,ρ s,ρ lb,V15,ρ p5,u,u,V8,ρ e,V10,V11,V12,V8,V14,V15,V15,u,u,u,u,u,u,u,u,u,u,u,u,u,u,u,u,u,u,u,u,u,u,u,ρ e,ρ e,ρ e,u,u,ρ e,ρ e,.pointer (some ⟨e,1,none⟩),u,u,u,u,u,u,u,u,u,u,u,u,u,u,u,u,u,u,u,u,u,u,u,u,u,u],defers := [] } W := by
    intro W acc p5 v5 h5
    rw [← hR]
    dsimp only [ρ]
    have e0 := (he.below acc zE).cell0
    have e1 := (he.below acc zE).cell1
    refine wpAnyIn_ready (rs := [3,8,16]) (by kernel_rfl) (by simp) (AllReadyIn.cons rfl (fun K hK => ?_) (AllReadyIn.cons rfl (fun K hK => ?_) (AllReadyIn.cons rfl (fun K hK => ?_) (AllReadyIn.nil))))
    · go_simp; exact hK _ _ (U _ _ _ _ (H72 W acc p5 v5 h5))
    · go_simp; exact hK _ _ (U _ _ _ _ (H88 W acc p5 v5 h5))
    · go_simp; exact hK _ _ (U _ _ _ _ (H91 (W.alloc (.cells #[.int .u64 0,.slice none 0 0] 25)) (acc.alloc acc.size _) p5 (v5.alloc _) h5 W.heap.size (Var.new W _ _ _ _ _ rfl) acc.size (Nat.ne_of_lt v5.lt)))
  have H93 : ∀ (W : World) (acc : Bx W3 W) (p6 : Nat) (v6 : Vx W p6 0) (h6 : W3.heap.size ≤ p6),R 13 #[Ix,Ix,Ix,Ox,Ox,Ix,Ix,Ix,Ox,Ox,Ox,Ox,Ox,Ox,Ox,Ox,Ix,Ox,Ox,Ox] { tmps := #[ρ e,u,ρ s,ρ lb,V15,u,ρ p6,u,V8,ρ e,V10,V11,V12,V8,V14,V15,V15,u,u,u,u,u,u,u,u,u,u,u,u,u,u,u,u,u,u,u,u,u,u,u,ρ e,ρ e,ρ e,u,u,ρ e,ρ e,.pointer (some ⟨e,1,none⟩),u,u,u,u,u,u,u,u,u,u,u,u,u,u,u,u,u,u,u,u,u,u,u,u,u,u],defers := [] } W := by
    intro W acc p6 v6 h6
    rw [← hR]
    dsimp only [ρ]
    have e0 := (he.below acc zE).cell0
    have e1 := (he.below acc zE).cell1
    refine wpAnyIn_ready (rs := [3,8,15]) (by kernel_rfl) (by simp) (AllReadyIn.cons rfl (fun K hK => ?_) (AllReadyIn.cons rfl (fun K hK => ?_) (AllReadyIn.cons rfl (fun K hK => ?_) (AllReadyIn.nil))))
    · go_simp; exact hK _ _ (U _ _ _ _ (H73 W acc p6 v6 h6))
    · go_simp; exact hK _ _ (U _ _ _ _ (H89 W acc p6 v6 h6))
    · go_simp; exact hK _ _ (U _ _ _ _ (H91 (W.alloc (.cells #[.int .u64 0,.slice none 0 0] 25)) (acc.alloc acc.size _) W.heap.size (Var.new W _ _ _ _ _ rfl) acc.size p6 (v6.alloc _) h6 (Nat.ne_of_gt v6.lt)))
  have H94 : ∀ (W : World) (acc : Bx W3 W),R 14 #[Ix,Ix,Ix,Ox,Ox,Ix,Ix,Ix,Ox,Ox,Ox,Ox,Ox,Ox,Ox,Ox,Ox,Ox,Ox,Ox] { tmps := #[ρ e,u,ρ s,ρ lb,V15,u,u,u,V8,ρ e,V10,V11,V12,V8,V14,V15,V15,u,u,u,u,u,u,u,u,u,u,u,u,u,u,u,u,u,u,u,u,u,u,u,ρ e,ρ e,ρ e,u,u,ρ e,ρ e,.pointer (some ⟨e,1,none⟩),u,u,u,u,u,u,u,u,u,u,u,u,u,u,u,u,u,u,u,u,u,u,u,u,u,u],defers := [] } W := by
    intro W acc
    rw [← hR]
    dsimp only [ρ]
    have e0 := (he.below acc zE).cell0
    have e1 := (he.below acc zE).cell1
    refine wpAnyIn_ready (rs := [3,8,15,16]) (by kernel_rfl) (by simp) (AllReadyIn.cons rfl (fun K hK => ?_) (AllReadyIn.cons rfl (fun K hK => ?_) (AllReadyIn.cons rfl (fun K hK => ?_) (AllReadyIn.cons rfl (fun K hK => ?_) (AllReadyIn.nil)))))
    · go_simp; exact hK _ _ (U _ _ _ _ (H74 W acc))
    · go_simp; exact hK _ _ (U _ _ _ _ (H90 W acc))
    · go_simp; exact hK _ _ (U _ _ _ _ (H92 (W.alloc (.cells #[.int .u64 0,.slice none 0 0] 25)) (acc.alloc acc.size _) W.heap.size (Var.new W _ _ _ _ _ rfl) acc.size))
    · go_simp; exact hK _ _ (U _ _ _ _ (H93 (W.alloc (.cells #[.int .u64 0,.slice none 0 0] 25)) (acc.alloc acc.size _) W.heap.size (Var.new W _ _ _ _ _ rfl) acc.size))
  have H95 : ∀ (W : World) (acc : Bx W3 W) (p5 : Nat) (v5 : Vx W p5 0) (h5 : W3.heap.size ≤ p5) (p6 : Nat) (v6 : Vx W p6 0) (h6 : W3.heap.size ≤ p6) (n56 : p5 ≠ p6),R 13 #[Ix,Ix,Ix,Ox,Ox,Ix,Ix,Ox,Ox,Ox,Ox,Ox,Ox,Ox,Ox,Ix,Ix,Ox,Ox,Ox] { tmps := #[ρ e,u,ρ s,ρ lb,V15,ρ p5,ρ p6,u,V8,ρ e,V10,V11,V12,V8,V14,V15,V15,u,u,u,u,u,u,u,u,u,u,u,u,u,u,u,u,u,u,u,u,u,u,u,ρ e,ρ e,ρ e,u,u,ρ e,ρ e,u,u,u,u,u,u,u,u,u,u,u,u,u,u,u,u,u,u,u,u,u,u,u,u,u,u,u],defers := [] } W := by
    intro W acc p5 v5 h5 p6 v6 h6 n56
    rw [← hR]
    dsimp only [ρ]
    have e0 := (he.below acc zE).cell0
    have e1 := (he.below acc zE).cell1
    refine wpAnyIn_ready (rs := [3,7]) (by kernel_rfl) (by simp) (AllReadyIn.cons rfl (fun K hK => ?_) (AllReadyIn.cons rfl (fun K hK => ?_) (AllReadyIn.nil)))
    · go_simp; exact hK _ _ (U _ _ _ _ (H75 W acc p5 v5 h5 p6 v6 h6 n56))
    · go_simp; exact hK _ _ (U _ _ _ _ (H91 W acc p5 v5 h5 p6 v6 h6 n56))
  have H96 : ∀ (W : World) (acc : Bx W3 W) (p5 : Nat) (v5 : Vx W p5 0) (h5 : W3.heap.size ≤ p5),R 14 #[Ix,Ix,Ix,Ox,Ox,Ix,Ix,Ox,Ox,Ox,Ox,Ox,Ox,Ox,Ox,Ix,Ox,Ox,Ox,Ox] { tmps := #[ρ e,u,ρ s,ρ lb,V15,ρ p5,u,u,V8,ρ e,V10,V11,V12,V8,V14,V15,V15,u,u,u,u,u,u,u,u,u,u,u,u,u,u,u,u,u,u,u,u,u,u,u,ρ e,ρ e,ρ e,u,u,ρ e,ρ e,u,u,u,u,u,u,u,u,u,u,u,u,u,u,u,u,u,u,u,u,u,u,u,u,u,u,u],defers := [] } W := by
    intro W acc p5 v5 h5
    rw [← hR]
    dsimp only [ρ]
    have e0 := (he.below acc zE).cell0
    have e1 := (he.below acc zE).cell1
    refine wpAnyIn_ready (rs := [3,7,16]) (by kernel_rfl) (by simp) (AllReadyIn.cons rfl (fun K hK => ?_) (AllReadyIn.cons rfl (fun K hK => ?_) (AllReadyIn.cons rfl (fun K hK => ?_) (AllReadyIn.nil))))
    · go_simp; exact hK _ _ (U _ _ _ _ (H76 W acc p5 v5 h5))
    · go_simp; exact hK _ _ (U _ _ _ _ (H92 W acc p5 v5 h5))
    · go_simp; exact hK _ _ (U _ _ _ _ (H95 (W.alloc (.cells #[.int .u64 0,.slice none 0 0] 25)) (acc.alloc acc.size _) p5 (v5.alloc _) h5 W.heap.size (Var.new W _ _ _ _ _ rfl) acc.size (Nat.ne_of_lt v5.lt)))
  have H97 : ∀ (W : World) (acc : Bx W3 W) (p6 : Nat) (v6 : Vx W p6 0) (h6 : W3.heap.size ≤ p6),R 14 #[Ix,Ix,Ix,Ox,Ox,Ix,Ix,Ox,Ox,Ox,Ox,Ox,Ox,Ox,Ox,Ox,Ix,Ox,Ox,Ox] { tmps := #[ρ e,u,ρ s,ρ lb,V15,u,ρ p6,u,V8,ρ e,V10,V11,V12,V8,V14,V15,V15,u,u,u,u,u,u,u,u,u,u,u,u,u,u,u,u,u,u,u,u,u,u,u,ρ e,ρ e,ρ e,u,u,ρ e,ρ e,u,u,u,u,u,u,u,u,u,u,u,u,u,u,u,u,u,u,u,u,u,u,u,u,u,u,u],defers := [] } W := by
    intro W acc p6 v6 h6
    rw [← hR]
    dsimp only [ρ]
    have e0 := (he.below acc zE).cell0
    have e1 := (he.below acc zE).cell1
    refine wpAnyIn_ready (rs := [3,7,15]) (by kernel_rfl) (by simp) (AllReadyIn.cons rfl (fun K hK => ?_) (AllReadyIn.cons rfl (fun K hK => ?_) (AllReadyIn.cons rfl (fun K hK => ?_) (AllReadyIn.nil))))
    · go_simp; exact hK _ _ (U _ _ _ _ (H77 W acc p6 v6 h6))
    · go_simp; exact hK _ _ (U _ _ _ _ (H93 W acc p6 v6 h6))
    · go_simp; exact hK _ _ (U _ _ _ _ (H95 (W.alloc (.cells #[.int .u64 0,.slice none 0 0] 25)) (acc.alloc acc.size _) W.heap.size (Var.new W _ _ _ _ _ rfl) acc.size p6 (v6.alloc _) h6 (Nat.ne_of_gt v6.lt)))
  have H98 : ∀ (W : World) (acc : Bx W3 W),R 15 #[Ix,Ix,Ix,Ox,Ox,Ix,Ix,Ox,Ox,Ox,Ox,Ox,Ox,Ox,Ox,Ox,Ox,Ox,Ox,Ox] { tmps := #[ρ e,u,ρ s,ρ lb,V15,u,u,u,V8,ρ e,V10,V11,V12,V8,V14,V15,V15,u,u,u,u,u,u,u,u,u,u,u,u,u,u,u,u,u,u,u,u,u,u,u,ρ e,ρ e,ρ e,u,u,ρ e,ρ e,u,u,u,u,u,u,u,u,u,u,u,u,u,u,u,u,u,u,u,u,u,u,u,u,u,u,u],defers := [] } W := by
    intro W acc
    rw [← hR]
    dsimp only [ρ]
    have e0 := (he.below acc zE).cell0
    have e1 := (he.below acc zE).cell1
    refine wpAnyIn_ready (rs := [3,7,15,16]) (by kernel_rfl) (by simp) (AllReadyIn.cons rfl (fun K hK => ?_) (AllReadyIn.cons rfl (fun K hK => ?_) (AllReadyIn.cons rfl (fun K hK => ?_) (AllReadyIn.cons rfl (fun K hK => ?_) (AllReadyIn.nil)))))
    · go_simp; exact hK _ _ (U _ _ _ _ (H78 W acc))
    · go_simp; exact hK _ _ (U _ _ _ _ (H94 W acc))
    · go_simp; exact hK _ _ (U _ _ _ _ (H96 (W.alloc (.cells #[.int .u64 0,.slice none 0 0] 25)) (acc.alloc acc.size _) W.heap.size (Var.new W _ _ _ _ _ rfl) acc.size))
    · go_simp; exact hK _ _ (U _ _ _ _ (H97 (W.alloc (.cells #[.int .u64 0,.slice none 0 0] 25)) (acc.alloc acc.size _) W.heap.size (Var.new W _ _ _ _ _ rfl) acc.size))
  have H99 : ∀ (W : World) (acc : Bx W3 W) (p5 : Nat) (v5 : Vx W p5 0) (h5 : W3.heap.size ≤ p5) (p6 : Nat) (v6 : Vx W p6 0) (h6 : W3.heap.size ≤ p6) (n56 : p5 ≠ p6),R 14 #[Ix,Ix,Ix,Ox,Ox,Ix,Ox,Ox,Ox,Ox,Ox,Ox,Ox,Ox,Ox,Ix,Ix,Ox,Ox,Ox] { tmps := #[ρ e,u,ρ s,ρ lb,V15,ρ p5,ρ p6,u,V8,ρ e,V10,V11,V12,V8,V14,V15,V15,u,u,u,u,u,u,u,u,u,u,u,u,u,u,u,u,u,u,u,u,u,u,u,ρ e,ρ e,ρ e,u,u,ρ e,u,u,u,u,u,u,u,u,u,u,u,u,u,u,u,u,u,u,u,u,u,u,u,u,u,u,u,u],defers := [] } W := by
    intro W acc p5 v5 h5 p6 v6 h6 n56
    rw [← hR]
    dsimp only [ρ]
    have e0 := (he.below acc zE).cell0
    have e1 := (he.below acc zE).cell1
    refine wpAnyIn_ready (rs := [3,6]) (by kernel_rfl) (by simp) (AllReadyIn.cons rfl (fun K hK => ?_) (AllReadyIn.cons rfl (fun K hK => ?_) (AllReadyIn.nil)))
    · go_simp; exact hK _ _ (U _ _ _ _ (H79 W acc p5 v5 h5 p6 v6 h6 n56))
    · go_simp; exact hK _ _ (U _ _ _ _ (H95 W acc p5 v5 h5 p6 v6 h6 n56))
  have H100 : ∀ (W : World) (acc : Bx W3 W) (p5 : Nat) (v5 : Vx W p5 0) (h5 : W3.heap.size ≤ p5),R 15 #[Ix,Ix,Ix,Ox,Ox,Ix,Ox,Ox,Ox,Ox,Ox,Ox,Ox,Ox,Ox,Ix,Ox,Ox,Ox,Ox] { tmps := #[ρ e,u,ρ s,ρ lb,V15,ρ p5,u,u,V8,ρ e,V10,V11,V12,V8,V14,V15,V15,u,u,u,u,u,u,u,u,u,u,u,u,u,u,u,u,u,u,u,u,u,u,u,ρ e,ρ e,ρ e,u,u,ρ e,u,u,u,u,u,u,u,u,u,u,u,u,u,u,u,u,u,u,u,u,u,u,u,u,u,u,u,u],defers := [] } W := by
    intro W acc p5 v5 h5
    rw [← hR]
    dsimp only [ρ]
    have e0 := (he.below acc zE).cell0
    have e1 := (he.below acc zE).cell1
    refine wpAnyIn_ready (rs := [3,6,16]) (by kernel_rfl) (by simp) (AllReadyIn.cons rfl (fun K hK => ?_) (AllReadyIn.cons rfl (fun K hK => ?_) (AllReadyIn.cons rfl (fun K hK => ?_) (AllReadyIn.nil))))
    · go_simp; exact hK _ _ (U _ _ _ _ (H80 W acc p5 v5 h5))
    · go_simp; exact hK _ _ (U _ _ _ _ (H96 W acc p5 v5 h5))
    · go_simp; exact hK _ _ (U _ _ _ _ (H99 (W.alloc (.cells #[.int .u64 0,.slice none 0 0] 25)) (acc.alloc acc.size _) p5 (v5.alloc _) h5 W.heap.size (Var.new W _ _ _ _ _ rfl) acc.size (Nat.ne_of_lt v5.lt)))
  have H101 : ∀ (W : World) (acc : Bx W3 W) (p6 : Nat) (v6 : Vx W p6 0) (h6 : W3.heap.size ≤ p6),R 15 #[Ix,Ix,Ix,Ox,Ox,Ix,Ox,Ox,Ox,Ox,Ox,Ox,Ox,Ox,Ox,Ox,Ix,Ox,Ox,Ox] { tmps := #[ρ e,u,ρ s,ρ lb,V15,u,ρ p6,u,V8,ρ e,V10,V11,V12,V8,V14,V15,V15,u,u,u,u,u,u,u,u,u,u,u,u,u,u,u,u,u,u,u,u,u,u,u,ρ e,ρ e,ρ e,u,u,ρ e,u,u,u,u,u,u,u,u,u,u,u,u,u,u,u,u,u,u,u,u,u,u,u,u,u,u,u,u],defers := [] } W := by
    intro W acc p6 v6 h6
    rw [← hR]
    dsimp only [ρ]
    have e0 := (he.below acc zE).cell0
    have e1 := (he.below acc zE).cell1
    refine wpAnyIn_ready (rs := [3,6,15]) (by kernel_rfl) (by simp) (AllReadyIn.cons rfl (fun K hK => ?_) (AllReadyIn.cons rfl (fun K hK => ?_) (AllReadyIn.cons rfl (fun K hK => ?_) (AllReadyIn.nil))))
    · go_simp; exact hK _ _ (U _ _ _ _ (H81 W acc p6 v6 h6))
    · go_simp; exact hK _ _ (U _ _ _ _ (H97 W acc p6 v6 h6))
    · go_simp; exact hK _ _ (U _ _ _ _ (H99 (W.alloc (.cells #[.int .u64 0,.slice none 0 0] 25)) (acc.alloc acc.size _) W.heap.size (Var.new W _ _ _ _ _ rfl) acc.size p6 (v6.alloc _) h6 (Nat.ne_of_gt v6.lt)))
  have H102 : ∀ (W : World) (acc : Bx W3 W),R 16 #[Ix,Ix,Ix,Ox,Ox,Ix,Ox,Ox,Ox,Ox,Ox,Ox,Ox,Ox,Ox,Ox,Ox,Ox,Ox,Ox] { tmps := #[ρ e,u,ρ s,ρ lb,V15,u,u,u,V8,ρ e,V10,V11,V12,V8,V14,V15,V15,u,u,u,u,u,u,u,u,u,u,u,u,u,u,u,u,u,u,u,u,u,u,u,ρ e,ρ e,ρ e,u,u,ρ e,u,u,u,u,u,u,u,u,u,u,u,u,u,u,u,u,u,u,u,u,u,u,u,u,u,u,u,u],defers := [] } W := by
    intro W acc
    rw [← hR]
    dsimp only [ρ]
    have e0 := (he.below acc zE).cell0
    have e1 := (he.below acc zE).cell1
    refine wpAnyIn_ready (rs := [3,6,15,16]) (by kernel_rfl) (by simp) (AllReadyIn.cons rfl (fun K hK => ?_) (AllReadyIn.cons rfl (fun K hK => ?_) (AllReadyIn.cons rfl (fun K hK => ?_) (AllReadyIn.cons rfl (fun K hK => ?_) (AllReadyIn.nil)))))
    · go_simp; exact hK _ _ (U _ _ _ _ (H82 W acc))
    · go_simp; exact hK _ _ (U _ _ _ _ (H98 W acc))
    · go_simp; exact hK _ _ (U _ _ _ _ (H100 (W.alloc (.cells #[.int .u64 0,.slice none 0 0] 25)) (acc.alloc acc.size _) W.heap.size (Var.new W _ _ _ _ _ rfl) acc.size))
    · go_simp; exact hK _ _ (U _ _ _ _ (H101 (W.alloc (.cells #[.int .u64 0,.slice none 0 0] 25)) (acc.alloc acc.size _) W.heap.size (Var.new W _ _ _ _ _ rfl) acc.size))
  have H103 : ∀ (W : World) (acc : Bx W3 W) (p5 : Nat) (v5 : Vx W p5 0) (h5 : W3.heap.size ≤ p5) (p6 : Nat) (v6 : Vx W p6 0) (h6 : W3.heap.size ≤ p6) (n56 : p5 ≠ p6),R 15 #[Ix,Ix,Ix,Ox,Ox,Ox,Ox,Ox,Ox,Ox,Ox,Ox,Ox,Ox,Ox,Ix,Ix,Ox,Ox,Ox] { tmps := #[ρ e,u,ρ s,ρ lb,V15,ρ p5,ρ p6,u,V8,ρ e,V10,V11,V12,V8,V14,V15,V15,u,u,u,u,u,u,u,u,u,u,u,u,u,u,u,u,u,u,u,u,u,u,u,ρ e,ρ e,ρ e,u,u,u,u,u,u,u,u,u,u,u,u,u,u,u,u,u,u,u,u,u,u,u,u,u,u,u,u,u,u,u],defers := [] } W := by
    intro W acc p5 v5 h5 p6 v6 h6 n56
    rw [← hR]
    dsimp only [ρ]
    have e0 := (he.below acc zE).cell0
    have e1 := (he.below acc zE).cell1
    refine wpAnyIn_ready (rs := [3,5]) (by kernel_rfl) (by simp) (AllReadyIn.cons rfl (fun K hK => ?_) (AllReadyIn.cons rfl (fun K hK => ?_) (AllReadyIn.nil)))
    · go_simp; exact hK _ _ (U _ _ _ _ (H83 W acc p5 v5 h5 p6 v6 h6 n56))
    · go_simp; exact hK _ _ (U _ _ _ _ (H99 W acc p5 v5 h5 p6 v6 h6 n56))
  have H104 : ∀ (W : World) (acc : Bx W3 W) (p5 : Nat) (v5 : Vx W p5 0) (h5 : W3.heap.size ≤ p5),R 16 #[Ix,Ix,Ix,Ox,Ox,Ox,Ox,Ox,Ox,Ox,Ox,Ox,Ox,Ox,Ox,Ix,Ox,Ox,Ox,Ox] { tmps := #[ρ e,u,ρ s,ρ lb,V15,ρ p5,u,u,V8,ρ e,V10,V11,V12,V8,V14,V15,V15,u,u,u,u,u,u,u,u,u,u,u,u,u,u,u,u,u,u,u,u,u,u,u,ρ e,ρ e,ρ e,u,u,u,u,u,u,u,u,u,u,u,u,u,u,u,u,u,u,u,u,u,u,u,u,u,u,u,u,u,u,u],defers := [] } W := by
    intro W acc p5 v5 h5
    rw [← hR]
    dsimp only [ρ]
    have e0 := (he.below acc zE).cell0
    have e1 := (he.below acc zE).cell1
    refine wpAnyIn_ready (rs := [3,5,16]) (by kernel_rfl) (by simp) (AllReadyIn.cons rfl (fun K hK => ?_) (AllReadyIn.cons rfl (fun K hK => ?_) (AllReadyIn.cons rfl (fun K hK => ?_) (AllReadyIn.nil))))
    · go_simp; exact hK _ _ (U _ _ _ _ (H84 W acc p5 v5 h5))
    · go_simp; exact hK _ _ (U _ _ _ _ (H100 W acc p5 v5 h5))
    · go_simp; exact hK _ _ (U _ _ _ _ (H103 (W.alloc (.cells #[.int .u64 0,.slice none 0 0] 25)) (acc.alloc acc.size _) p5 (v5.alloc _) h5 W.heap.size (Var.new W _ _ _ _ _ rfl) acc.size (Nat.ne_of_lt v5.lt)))
  have H105 : ∀ (W : World) (acc : Bx W3 W) (p6 : Nat) (v6 : Vx W p6 0) (h6 : W3.heap.size ≤ p6),R 16 #[Ix,Ix,Ix,Ox,Ox,Ox,Ox,Ox,Ox,Ox,Ox,Ox,Ox,Ox,Ox,Ox,Ix,Ox,Ox,Ox] { tmps := #[ρ e,u,ρ s,ρ lb,V15,u,ρ p6,u,V8,ρ e,V10,V11,V12,V8,V14,V15,V15,u,u,u,u,u,u,u,u,u,u,u,u,u,u,u,u,u,u,u,u,u,u,u,ρ e,ρ e,ρ e,u,u,u,u,u,u,u,u,u,u,u,u,u,u,u,u,u,u,u,u,u,u,u,u,u,u,u,u,u,u,u],defers := [] } W := by
    intro W acc p6 v6 h6
    rw [← hR]
    dsimp only [ρ]
    have e0 := (he.below acc zE).cell0
    have e1 := (he.below acc zE).cell1
    refine wpAnyIn_ready (rs := [3,5,15]) (by kernel_rfl) (by simp) (AllReadyIn.cons rfl (fun K hK => ?_) (AllReadyIn.cons rfl (fun K hK => ?_) (AllReadyIn.cons rfl (fun K hK => ?_) (AllReadyIn.nil))))
    · go_simp; exact hK _ _ (U _ _ _ _ (H85 W acc p6 v6 h6))
    · go_simp; exact hK _ _ (U _ _ _ _ (H101 W acc p6 v6 h6))
    · go_simp; exact hK _ _ (U _ _ _ _ (H103 (W.alloc (.cells #[.int .u64 0,.slice none 0 0] 25)) (acc.alloc acc.size _) W.heap.size (Var.new W _ _ _ _ _ rfl) acc.size p6 (v6.alloc _) h6 (Nat.ne_of_gt v6.lt)))
  have H106 : ∀ (W : World) (acc : Bx W3 W),R 17 #[Ix,Ix,Ix,Ox,Ox,Ox,Ox,Ox,Ox,Ox,Ox,Ox,Ox,Ox,Ox,Ox,Ox,Ox,Ox,Ox] { tmps := #[ρ e,u,ρ s,ρ lb,V15,u,u,u,V8,ρ e,V10,V11,V12,V8,V14,V15,V15,u,u,u,u,u,u,u,u,u,u,u,u,u,u,u,u,u,u,u,u,u,u,u,ρ e,ρ e,ρ e,u,u,u,u,u,u,u,u,u,u,u,u,u,u,u,u,u,u,u,u,u,u,u,u,u,u,u,u,u,u,u],defers := [] } W := by
    intro W acc
    rw [← hR]
    dsimp only [ρ]
    have e0 := (he.below acc zE).cell0
    have e1 := (he.below acc zE).cell1
    refine wpAnyIn_ready (rs := [3,5,15,16]) (by kernel_rfl) (by simp) (AllReadyIn.cons rfl (fun K hK => ?_) (AllReadyIn.cons rfl (fun K hK => ?_) (AllReadyIn.cons rfl (fun K hK => ?_) (AllReadyIn.cons rfl (fun K hK => ?_) (AllReadyIn.nil)))))
    · go_simp; exact hK _ _ (U _ _ _ _ (H86 W acc))
    · go_simp; exact hK _ _ (U _ _ _ _ (H102 W acc))
    · go_simp; exact hK _ _ (U _ _ _ _ (H104 (W.alloc (.cells #[.int .u64 0,.slice none 0 0] 25)) (acc.alloc acc.size _) W.heap.size (Var.new W _ _ _ _ _ rfl) acc.size))
    · go_simp; exact hK _ _ (U _ _ _ _ (H105 (W.alloc (.cells #[.int .u64 0,.slice none 0 0] 25)) (acc.alloc acc.size _) W.heap.size (Var.new W _ _ _ _ _ rfl) acc.size))
  have H107 : ∀ (W : World) (acc : Bx W3 W) (p5 : Nat) (v5 : Vx W p5 0) (h5 : W3.heap.size ≤ p5) (p6 : Nat) (v6 : Vx W p6 0) (h6 : W3.heap.size ≤ p6) (n56 : p5 ≠ p6),R 12 #[Ix,Ix,Ox,Ox,Ox,Ix,Ix,Ix,Ix,Ox,Ox,Ox,Ox,Ox,Ox,Ix,Ix,Ox,Ox,Ox] { tmps := #[ρ e,u,ρ s,ρ lb,V15,ρ p5,ρ p6,u,V8,ρ e,V10,V11,V12,V8,V14,V15,V15,u,u,u,u,u,u,u,u,u,u,u,u,u,u,u,u,u,u,u,u,u,u,u,ρ e,ρ e,u,u,u,ρ e,ρ e,.pointer (some ⟨e,1,none⟩),ς gb 1 cb,u,u,u,u,u,u,u,u,u,u,u,u,u,u,u,u,u,u,u,u,u,u,u,u,u],defers := [] } W := by
    intro W acc p5 v5 h5 p6 v6 h6 n56
    rw [← hR]
    dsimp only [ρ,ς]
    have e0 := (he.below acc zE).cell0
    refine wpAnyIn_ready (rs := [2]) (by kernel_rfl) (by simp) (AllReadyIn.cons rfl (fun K hK => ?_) (AllReadyIn.nil))
    · go_simp; exact hK _ _ (U _ _ _ _ (H87 W acc p5 v5 h5 p6 v6 h6 n56))
  have H108 : ∀ (W : World) (acc : Bx W3 W) (p5 : Nat) (v5 : Vx W p5 0) (h5 : W3.heap.size ≤ p5),R 13 #[Ix,Ix,Ox,Ox,Ox,Ix,Ix,Ix,Ix,Ox,Ox,Ox,Ox,Ox,Ox,Ix,Ox,Ox,Ox,Ox] { tmps := #[ρ e,u,ρ s,ρ lb,V15,ρ p5,u,u,V8,ρ e,V10,V11,V12,V8,V14,V15,V15,u,u,u,u,u,u,u,u,u,u,u,u,u,u,u,u,u,u,u,u,u,u,u,ρ e,ρ e,u,u,u,ρ e,ρ e,.pointer (some ⟨e,1,none⟩),ς gb 1 cb,u,u,u,u,u,u,u,u,u,u,u,u,u,u,u,u,u,u,u,u,u,u,u,u,u],defers := [] } W := by
    intro W acc p5 v5 h5
    rw [← hR]
    dsimp only [ρ,ς]
    have e0 := (he.below acc zE).cell0
    refine wpAnyIn_ready (rs := [2,16]) (by kernel_rfl) (by simp) (AllReadyIn.cons rfl (fun K hK => ?_) (AllReadyIn.cons rfl (fun K hK => ?_) (AllReadyIn.nil)))
    · go_simp; exact hK _ _ (U _ _ _ _ (H88 W acc p5 v5 h5))
    · go_simp; exact hK _ _ (U _ _ _ _ (H107 (W.alloc (.cells #[.int .u64 0,.slice none 0 0] 25)) (acc.alloc acc.size _) p5 (v5.alloc _) h5 W.heap.size (Var.new W _ _ _ _ _ rfl) acc.size (Nat.ne_of_lt v5.lt)))
  have H109 : ∀ (W : World) (acc : Bx W3 W) (p6 : Nat) (v6 : Vx W p6 0) (h6 : W3.heap.size ≤ p6),R 13 #[Ix,Ix,Ox,Ox,Ox,Ix,Ix,Ix,Ix,Ox,Ox,Ox,Ox,Ox,Ox,Ox,Ix,Ox,Ox,Ox] { tmps := #[ρ e,u,ρ s,ρ lb,V15,u,ρ p6,u,V8,ρ e,V10,V11,V12,V8,V14,V15,V15,u,u,u,u,u,u,u,u,u,u,u,u,u,u,u,u,u,u,u,u,u,u,u,ρ e,ρ e,u,u,u,ρ e,ρ e,.pointer (some ⟨e,1,none⟩),ς gb 1 cb,u,u,u,u,u,u,u,u,u,u,u,u,u,u,u,u,u,u,u,u,u,u,u,u,u],defers := [] } W := by
    intro W acc p6 v6 h6
    rw [← hR]
    dsimp only [ρ,ς]
    have e0 := (he.below acc zE).cell0
    refine wpAnyIn_ready (rs := [2,15]) (by kernel_rfl) (by simp) (AllReadyIn.cons rfl (fun K hK => ?_) (AllReadyIn.cons rfl (fun K hK => ?_) (AllReadyIn.nil)))
    · go_simp; exact hK _ _ (U _ _ _ _ (H89 W acc p6 v6 h6))
    · go_simp; exact hK _ _ (U _ _ _ _ (H107 (W.alloc (.cells #[.int .u64 0,.slice none 0 0] 25)) (acc.alloc acc.size _) W.heap.size (Var.new W _ _ _ _ _ rfl) acc.size p6 (v6.alloc _) h6 (Nat.ne_of_gt v6.lt)))
  have H110 : ∀ (W : World) (acc : Bx W3 W),R 14 #[Ix,Ix,Ox,Ox,Ox,Ix,Ix,Ix,Ix,Ox,Ox,Ox,Ox,Ox,Ox,Ox,Ox,Ox,Ox,Ox] { tmps := #[ρ e,u,ρ s,ρ lb,V15,u,u,u,V8,ρ e,V10,V11,V12,V8,V14,V15,V15,u,u,u,u,u,u,u,u,u,u,u,u,u,u,u,u,u,u,u,u,u,u,u,ρ e,ρ e,u,u,u,ρ e,ρ e,.pointer (some ⟨e,1,none⟩),ς gb 1 cb,u,u,u,u,u,u,u,u,u,u,u,u,u,u,u,u,u,u,u,u,u,u,u,u,u],defers := [] } W := by
    intro W acc
    rw [← hR]
    dsimp only [ρ,ς]
    have e0 := (he.below acc zE).cell0
    refine wpAnyIn_ready (rs := [2,15,16]) (by kernel_rfl) (by simp) (AllReadyIn.cons rfl (fun K hK => ?_) (AllReadyIn.cons rfl (fun K hK => ?_) (AllReadyIn.cons rfl (fun K hK => ?_) (AllReadyIn.nil))))
    · go_simp; exact hK _ _ (U _ _ _ _ (H90 W acc))
    · go_simp; exact hK _ _ (U _ _ _ _ (H108 (W.alloc (.cells #[.int .u64 0,.slice none 0 0] 25)) (acc.alloc acc.size _) W.heap.size (Var.new W _ _ _ _ _ rfl) acc.size))
    · go_simp; exact hK _ _ (U _ _ _ _ (H109 (W.alloc (.cells #[.int .u64 0,.slice none 0 0] 25)) (acc.alloc acc.size _) W.heap.size (Var.new W _ _ _ _ _ rfl) acc.size))
  have H111 : ∀ (W : World) (acc : Bx W3 W) (p5 : Nat) (v5 : Vx W p5 0) (h5 : W3.heap.size ≤ p5) (p6 : Nat) (v6 : Vx W p6 0) (h6 : W3.heap.size ≤ p6) (n56 : p5 ≠ p6),R 13 #[Ix,Ix,Ox,Ox,Ox,Ix,Ix,Ix,Ox,Ox,Ox,Ox,Ox,Ox,Ox,Ix,Ix,Ox,Ox,Ox] { tmps := #[ρ e,u,ρ s,ρ lb,V15,ρ p5,ρ p6,u,V8,ρ e,V10,V11,V12,V8,V14,V15,V15,u,u,u,u,u,u,u,u,u,u,u,u,u,u,u,u,u,u,u,u,u,u,u,ρ e,ρ e,u,u,u,ρ e,ρ e,.pointer (some ⟨e,1,none⟩),u,u,u,u,u,u,u,u,u,u,u,u,u,u,u,u,u,u,u,u,u,u,u,u,u,u],defers := [] } W := by
    intro W acc p5 v5 h5 p6 v6 h6 n56
    rw [← hR]
    dsimp only [ρ]
    have e0 := (he.below acc zE).cell0
    have e1 := (he.below acc zE).cell1
    refine wpAnyIn_ready (rs := [2,8]) (by kernel_rfl) (by simp) (AllReadyIn.cons rfl (fun K hK => ?_) (AllReadyIn.cons rfl (fun K hK => ?_) (AllReadyIn.nil)))
    · go_simp; exact hK _ _ (U _ _ _ _ (H91 W acc p5 v5 h5 p6 v6 h6 n56))
    · go_simp; exact hK _ _ (U _ _ _ _ (H107 W acc p5 v5 h5 p6 v6 h6 n56))
  have H112 : ∀ (W : World) (acc : Bx W3 W) (p5 : Nat) (v5 : Vx W p5 0) (h5 : W3.heap.size ≤ p5),R 14 #[Ix,Ix,Ox,Ox,Ox,Ix,Ix,Ix,Ox,Ox,Ox,Ox,Ox,Ox,Ox,Ix,Ox,Ox,Ox,Ox] { tmps := #[ρ e,u,ρ s,ρ lb,V15,ρ p5,u,u,V8,ρ e,V10,V11,V12,V8,V14,V15,V15,u,u,u,u,u,u,u,u,u,u,u,u,u,u,u,u,u,u,u,u,u,u,u,ρ e,ρ e,u,u,u,ρ e,ρ e,.pointer (some ⟨e,1,none⟩),u,u,u,u,u,u,u,u,u,u,u,u,u,u,u,u,u,u,u,u,u,u,u,u,u,u],defers := [] } W := by
    intro W acc p5 v5 h5
    rw [← hR]
    dsimp only [ρ]
    have e0 := (he.below acc zE).cell0
    have e1 := (he.below acc zE).cell1
    refine wpAnyIn_ready (rs := [2,8,16]) (by kernel_rfl) (by simp) (AllReadyIn.cons rfl (fun K hK => ?_) (AllReadyIn.cons rfl (fun K hK => ?_) (AllReadyIn.cons rfl (fun K hK => ?_) (AllReadyIn.nil))))
    · go_simp; exact hK _ _ (U _ _ _ _ (H92 W acc p5 v5 h5))
    · go_simp; exact hK _ _ (U _ _ _ _ (H108 W acc p5 v5 h5))
    · go_simp; exact hK _ _ (U _ _ _ _ (H111 (W.alloc (.cells #[.int .u64 0,.slice none 0 0] 25)) (acc.alloc acc.size _) p5 (v5.alloc _) h5 W.heap.size (Var.new W _ _ _ _ _ rfl) acc.size (Nat.ne_of_lt v5.lt)))
  have H113 : ∀ (W : World) (acc : Bx W3 W) (p6 : Nat) (v6 : Vx W p6 0) (h6 : W3.heap.size ≤ p6),R 14 #[Ix,Ix,Ox,Ox,Ox,Ix,Ix,Ix,Ox,Ox,Ox,Ox,Ox,Ox,Ox,Ox,Ix,Ox,Ox,Ox] { tmps := #[ρ e,u,ρ s,ρ lb,V15,u,ρ p6,u,V8,ρ e,V10,V11,V12,V8,V14,V15,V15,u,u,u,u,u,u,u,u,u,u,u,u,u,u,u,u,u,u,u,u,u,u,u,ρ e,ρ e,u,u,u,ρ e,ρ e,.pointer (some ⟨e,1,none⟩),u,u,u,u,u,u,u,u,u,u,u,u,u,u,u,u,u,u,u,u,u,u,u,u,u,u],defers := [] } W := by
    intro W acc p6 v6 h6
    rw [← hR]
    dsimp only [ρ]
    have e0 := (he.below acc zE).cell0
    have e1 := (he.below acc zE).cell1
    refine wpAnyIn_ready (rs := [2,8,15]) (by kernel_rfl) (by simp) (AllReadyIn.cons rfl (fun K hK => ?_) (AllReadyIn.cons rfl (fun K hK => ?_) (AllReadyIn.cons rfl (fun K hK => ?_) (AllReadyIn.nil))))
    · go_simp; exact hK _ _ (U _ _ _ _ (H93 W acc p6 v6 h6))
    · go_simp; exact hK _ _ (U _ _ _ _ (H109 W acc p6 v6 h6))
    · go_simp; exact hK _ _ (U _ _ _ _ (H111 (W.alloc (.cells #[.int .u64 0,.slice none 0 0] 25)) (acc.alloc acc.size _) W.heap.size (Var.new W _ _ _ _ _ rfl) acc.size p6 (v6.alloc _) h6 (Nat.ne_of_gt v6.lt)))
  have H114 : ∀ (W : World) (acc : Bx W3 W),R 15 #[Ix,Ix,Ox,Ox,Ox,Ix,Ix,Ix,Ox,Ox,Ox,Ox,Ox,Ox,Ox,Ox,Ox,Ox,Ox,Ox] { tmps := #[ρ e,u,ρ s,ρ lb,V15,u,u,u,V8,ρ e,V10,V11,V12,V8,V14,V15,V15,u,u,u,u,u,u,u,u,u,u,u,u,u,u,u,u,u,u,u,u,u,u,u,ρ e,ρ e,u,u,u,ρ e,ρ e,.pointer (some ⟨e,1,none⟩),u,u,u,u,u,u,u,u,u,u,u,u,u,u,u,u,u,u,u,u,u,u,u,u,u,u],defers := [] } W := by
    intro W acc
    rw [← hR]
    dsimp only [ρ]
    have e0 := (he.below acc zE).cell0
    have e1 := (he.below acc zE).cell1
    refine wpAnyIn_ready (rs := [2,8,15,16]) (by kernel_rfl) (by simp) (AllReadyIn.cons rfl (fun K hK => ?_) (AllReadyIn.cons rfl (fun K hK => ?_) (AllReadyIn.cons rfl (fun K hK => ?_) (AllReadyIn.cons rfl (fun K hK => ?_) (AllReadyIn.nil)))))
    · go_simp; exact hK _ _ (U _ _ _ _ (H94 W acc))
    · go_simp; exact hK _ _ (U _ _ _ _ (H110 W acc))
    · go_simp; exact hK _ _ (U _ _ _ _ (H112 (W.alloc (.cells #[.int .u64 0,.slice none 0 0] 25)) (acc.alloc acc.size _) W.heap.size (Var.new W _ _ _ _ _ rfl) acc.size))
    · go_simp; exact hK _ _ (U _ _ _ _ (H113 (W.alloc (.cells #[.int .u64 0,.slice none 0 0] 25)) (acc.alloc acc.size _) W.heap.size (Var.new W _ _ _ _ _ rfl) acc.size))
  have H115 : ∀ (W : World) (acc : Bx W3 W) (p5 : Nat) (v5 : Vx W p5 0) (h5 : W3.heap.size ≤ p5) (p6 : Nat) (v6 : Vx W p6 0) (h6 : W3.heap.size ≤ p6) (n56 : p5 ≠ p6),R 14 #[Ix,Ix,Ox,Ox,Ox,Ix,Ix,Ox,Ox,Ox,Ox,Ox,Ox,Ox,Ox,Ix,Ix,Ox,Ox,Ox] { tmps := #[ρ e,u,ρ s,ρ lb,V15,ρ p5,ρ p6,u,V8,ρ e,V10,V11,V12,V8,V14,V15,V15,u,u,u,u,u,u,u,u,u,u,u,u,u,u,u,u,u,u,u,u,u,u,u,ρ e,ρ e,u,u,u,ρ e,ρ e,u,u,u,u,u,u,u,u,u,u,u,u,u,u,u,u,u,u,u,u,u,u,u,u,u,u,u],defers := [] } W := by
    intro W acc p5 v5 h5 p6 v6 h6 n56
    rw [← hR]
    dsimp only [ρ]
    have e0 := (he.below acc zE).cell0
    have e1 := (he.below acc zE).cell1
    refine wpAnyIn_ready (rs := [2,7]) (by kernel_rfl) (by simp) (AllReadyIn.cons rfl (fun K hK => ?_) (AllReadyIn.cons rfl (fun K hK => ?_) (AllReadyIn.nil)))
    · go_simp; exact hK _ _ (U _ _ _ _ (H95 W acc p5 v5 h5 p6 v6 h6 n56))
    · go_simp; exact hK _ _ (U _ _ _ _ (H111 W acc p5 v5 h5 p6 v6 h6 n56))
  have H116 : ∀ (W : World) (acc : Bx W3 W) (p5 : Nat) (v5 : Vx W p5 0) (h5 : W3.heap.size ≤ p5),R 15 #[Ix,Ix,Ox,Ox,Ox,Ix,Ix,Ox,Ox,Ox,Ox,Ox,Ox,Ox,Ox,Ix,Ox,Ox,Ox,Ox] { tmps := #[ρ e,u,ρ s,ρ lb,V15,ρ p5,u,u,V8,ρ e,V10,V11,V12,V8,V14,V15,V15,u,u,u,u,u,u,u,u,u,u,u,u,u,u,u,u,u,u,u,u,u,u,u,ρ e,ρ e,u,u,u,ρ e,ρ e,u,u,u,u,u,u,u,u,u,u,u,u,u,u,u,u,u,u,u,u,u,u,u,u,u,u,u],defers := [] } W := by
    intro W acc p5 v5 h5
    rw [← hR]
    dsimp only [ρ]
    have e0 := (he.below acc zE).cell0
    have e1 := (he.below acc zE).cell1
    refine wpAnyIn_ready (rs := [2,7,16]) (by kernel_rfl) (by simp) (AllReadyIn.cons rfl (fun K hK => ?_) (AllReadyIn.cons rfl (fun K hK => ?_) (AllReadyIn.cons rfl (fun K hK => ?_) (AllReadyIn.nil))))
    · go_simp; exact hK _ _ (U _ _ _ _ (H96 W acc p5 v5 h5))
    · go_simp; exact hK _ _ (U _ _ _ _ (H112 W acc p5 v5 h5))
    · go_simp; exact hK _ _ (U _ _ _ _ (H115 (W.alloc (.cells #[.int .u64 0,.slice none 0 0] 25)) (acc.alloc acc.size _) p5 (v5.alloc _) h5 W.heap.size (Var.new W _ _ _ _ _ rfl) acc.size (Nat.ne_of_lt v5.lt)))
  have H117 : ∀ (W : World) (acc : Bx W3 W) (p6 : Nat) (v6 : Vx W p6 0) (h6 : W3.heap.size ≤ p6),R 15 #[Ix,Ix,Ox,Ox,Ox,Ix,Ix,Ox,Ox,Ox,Ox,Ox,Ox,Ox,Ox,Ox,Ix,Ox,Ox,Ox] { tmps := #[ρ e,u,ρ s,ρ lb,V15,u,ρ p6,u,V8,ρ e,V10,V11,V12,V8,V14,V15,V15,u,u,u,u,u,u,u,u,u,u,u,u,u,u,u,u,u,u,u,u,u,u,u,ρ e,ρ e,u,u,u,ρ e,ρ e,u,u,u,u,u,u,u,u,u,u,u,u,u,u,u,u,u,u,u,u,u,u,u,u,u,u,u],defers := [] } W := by
    intro W acc p6 v6 h6
    rw [← hR]
    dsimp only [ρ]
    have e0 := (he.below acc zE).cell0
    have e1 := (he.below acc zE).cell1
    refine wpAnyIn_ready (rs := [2,7,15]) (by kernel_rfl) (by simp) (AllReadyIn.cons rfl (fun K hK => ?_) (AllReadyIn.cons rfl (fun K hK => ?_) (AllReadyIn.cons rfl (fun K hK => ?_) (AllReadyIn.nil))))
    · go_simp; exact hK _ _ (U _ _ _ _ (H97 W acc p6 v6 h6))
    · go_simp; exact hK _ _ (U _ _ _ _ (H113 W acc p6 v6 h6))
    · go_simp; exact hK _ _ (U _ _ _ _ (H115 (W.alloc (.cells #[.int .u64 0,.slice none 0 0] 25)) (acc.alloc acc.size _) W.heap.size (Var.new W _ _ _ _ _ rfl) acc.size p6 (v6.alloc _) h6 (Nat.ne_of_gt v6.lt)))
  have H118 : ∀ (W : World) (acc : Bx W3 W),R 16 #[Ix,Ix,Ox,Ox,Ox,Ix,Ix,Ox,Ox,Ox,Ox,Ox,Ox,Ox,Ox,Ox,Ox,Ox,Ox,Ox] { tmps := #[ρ e,u,ρ s,ρ lb,V15,u,u,u,V8,ρ e,V10,V11,V12,V8,V14,V15,V15,u,u,u,u,u,u,u,u,u,u,u,u,u,u,u,u,u,u,u,u,u,u,u,ρ e,ρ e,u,u,u,ρ e,ρ e,u,u,u,u,u,u,u,u,u,u,u,u,u,u,u,u,u,u,u,u,u,u,u,u,u,u,u],defers := [] } W := by
    intro W acc
    rw [← hR]
    dsimp only [ρ]
    have e0 := (he.below acc zE).cell0
    have e1 := (he.below acc zE).cell1
    refine wpAnyIn_ready (rs := [2,7,15,16]) (by kernel_rfl) (by simp) (AllReadyIn.cons rfl (fun K hK => ?_) (AllReadyIn.cons rfl (fun K hK => ?_) (AllReadyIn.cons rfl (fun K hK => ?_) (AllReadyIn.cons rfl (fun K hK => ?_) (AllReadyIn.nil)))))
    · go_simp; exact hK _ _ (U _ _ _ _ (H98 W acc))
    · go_simp; exact hK _ _ (U _ _ _ _ (H114 W acc))
    · go_simp; exact hK _ _ (U _ _ _ _ (H116 (W.alloc (.cells #[.int .u64 0,.slice none 0 0] 25)) (acc.alloc acc.size _) W.heap.size (Var.new W _ _ _ _ _ rfl) acc.size))
    · go_simp; exact hK _ _ (U _ _ _ _ (H117 (W.alloc (.cells #[.int .u64 0,.slice none 0 0] 25)) (acc.alloc acc.size _) W.heap.size (Var.new W _ _ _ _ _ rfl) acc.size))
  have H119 : ∀ (W : World) (acc : Bx W3 W) (p5 : Nat) (v5 : Vx W p5 0) (h5 : W3.heap.size ≤ p5) (p6 : Nat) (v6 : Vx W p6 0) (h6 : W3.heap.size ≤ p6) (n56 : p5 ≠ p6),R 15 #[Ix,Ix,Ox,Ox,Ox,Ix,Ox,Ox,Ox,Ox,Ox,Ox,Ox,Ox,Ox,Ix,Ix,Ox,Ox,Ox] { tmps := #[ρ e,u,ρ s,ρ lb,V15,ρ p5,ρ p6,u,V8,ρ e,V10,V11,V12,V8,V14,V15,V15,u,u,u,u,u,u,u,u,u,u,u,u,u,u,u,u,u,u,u,u,u,u,u,ρ e,ρ e,u,u,u,ρ e,u,u,u,u,u,u,u,u,u,u,u,u,u,u,u,u,u,u,u,u,u,u,u,u,u,u,u,u],defers := [] } W := by
    intro W acc p5 v5 h5 p6 v6 h6 n56
    rw [← hR]
    dsimp only [ρ]
    have e0 := (he.below acc zE).cell0
    have e1 := (he.below acc zE).cell1
    refine wpAnyIn_ready (rs := [2,6]) (by kernel_rfl) (by simp) (AllReadyIn.cons rfl (fun K hK => ?_) (AllReadyIn.cons rfl (fun K hK => ?_) (AllReadyIn.nil)))
    · go_simp; exact hK _ _ (U _ _ _ _ (H99 W acc p5 v5 h5 p6 v6 h6 n56))
    · go_simp; exact hK _ _ (U _ _ _ _ (H115 W acc p5 v5 h5 p6 v6 h6 n56))
  have H120 : ∀ (W : World) (acc : Bx W3 W) (p5 : Nat) (v5 : Vx W p5 0) (h5 : W3.heap.size ≤ p5),R 16 #[Ix,Ix,Ox,Ox,Ox,Ix,Ox,Ox,Ox,Ox,Ox,Ox,Ox,Ox,Ox,Ix,Ox,Ox,Ox,Ox] { tmps := #[ρ e,u,ρ s,ρ lb,V15,ρ p5,u,u,V8,ρ e,V10,V11,V12,V8,V14,V15,V15,u,u,u,u,u,u,u,u,u,u,u,u,u,u,u,u,u,u,u,u,u,u,u,ρ e,ρ e,u,u,u,ρ e,u,u,u,u,u,u,u,u,u,u,u,u,u,u,u,u,u,u,u,u,u,u,u,u,u,u,u,u],defers := [] } W := by
    intro W acc p5 v5 h5
    rw [← hR]
    dsimp only [ρ]
    have e0 := (he.below acc zE).cell0
    have e1 := (he.below acc zE).cell1
    refine wpAnyIn_ready (rs := [2,6,16]) (by kernel_rfl) (by simp) (AllReadyIn.cons rfl (fun K hK => ?_) (AllReadyIn.cons rfl (fun K hK => ?_) (AllReadyIn.cons rfl (fun K hK => ?_) (AllReadyIn.nil))))
    · go_simp; exact hK _ _ (U _ _ _ _ (H100 W acc p5 v5 h5))
    · go_simp; exact hK _ _ (U _ _ _ _ (H116 W acc p5 v5 h5))
    · go_simp; exact hK _ _ (U _ _ _ _ (H119 (W.alloc (.cells #[.int .u64 0,.slice none 0 0] 25)) (acc.alloc acc.size _) p5 (v5.alloc _) h5 W.heap.size (Var.new W _ _ _ _ _ rfl) acc.size (Nat.ne_of_lt v5.lt)))
  have H121 : ∀ (W : World) (acc : Bx W3 W) (p6 : Nat) (v6 : Vx W p6 0) (h6 : W3.heap.size ≤ p6),R 16 #[Ix,Ix,Ox,Ox,Ox,Ix,Ox,Ox,Ox,Ox,Ox,Ox,Ox,Ox,Ox,Ox,Ix,Ox,Ox,Ox] { tmps := #[ρ e,u,ρ s,ρ lb,V15,u,ρ p6,u,V8,ρ e,V10,V11,V12,V8,V14,V15,V15,u,u,u,u,u,u,u,u,u,u,u,u,u,u,u,u,u,u,u,u,u,u,u,ρ e,ρ e,u,u,u,ρ e,u,u,u,u,u,u,u,u,u,u,u,u,u,u,u,u,u,u,u,u,u,u,u,u,u,u,u,u],defers := [] } W := by
    intro W acc p6 v6 h6
    rw [← hR]
    dsimp only [ρ]
    have e0 := (he.below acc zE).cell0
    have e1 := (he.below acc zE).cell1
    refine wpAnyIn_ready (rs := [2,6,15]) (by kernel_rfl) (by simp) (AllReadyIn.cons rfl (fun K hK => ?_) (AllReadyIn.cons rfl (fun K hK => ?_) (AllReadyIn.cons rfl (fun K hK => ?_) (AllReadyIn.nil))))
    · go_simp; exact hK _ _ (U _ _ _ _ (H101 W acc p6 v6 h6))
    · go_simp; exact hK _ _ (U _ _ _ _ (H117 W acc p6 v6 h6))
    · go_simp; exact hK _ _ (U _ _ _ _ (H119 (W.alloc (.cells #[.int .u64 0,.slice none 0 0] 25)) (acc.alloc acc.size _) W.heap.size (Var.new W _ _ _ _ _ rfl) acc.size p6 (v6.alloc _) h6 (Nat.ne_of_gt v6.lt)))
  have H122 : ∀ (W : World) (acc : Bx W3 W),R 17 #[Ix,Ix,Ox,Ox,Ox,Ix,Ox,Ox,Ox,Ox,Ox,Ox,Ox,Ox,Ox,Ox,Ox,Ox,Ox,Ox] { tmps := #[ρ e,u,ρ s,ρ lb,V15,u,u,u,V8,ρ e,V10,V11,V12,V8,V14,V15,V15,u,u,u,u,u,u,u,u,u,u,u,u,u,u,u,u,u,u,u,u,u,u,u,ρ e,ρ e,u,u,u,ρ e,u,u,u,u,u,u,u,u,u,u,u,u,u,u,u,u,u,u,u,u,u,u,u,u,u,u,u,u],defers := [] } W := by
    intro W acc
    rw [← hR]
    dsimp only [ρ]
    have e0 := (he.below acc zE).cell0
    have e1 := (he.below acc zE).cell1
    refine wpAnyIn_ready (rs := [2,6,15,16]) (by kernel_rfl) (by simp) (AllReadyIn.cons rfl (fun K hK => ?_) (AllReadyIn.cons rfl (fun K hK => ?_) (AllReadyIn.cons rfl (fun K hK => ?_) (AllReadyIn.cons rfl (fun K hK => ?_) (AllReadyIn.nil)))))
    · go_simp; exact hK _ _ (U _ _ _ _ (H102 W acc))
    · go_simp; exact hK _ _ (U _ _ _ _ (H118 W acc))
    · go_simp; exact hK _ _ (U _ _ _ _ (H120 (W.alloc (.cells #[.int .u64 0,.slice none 0 0] 25)) (acc.alloc acc.size _) W.heap.size (Var.new W _ _ _ _ _ rfl) acc.size))
    · go_simp; exact hK _ _ (U _ _ _ _ (H121 (W.alloc (.cells #[.int .u64 0,.slice none 0 0] 25)) (acc.alloc acc.size _) W.heap.size (Var.new W _ _ _ _ _ rfl) acc.size))
  have H123 : ∀ (W : World) (acc : Bx W3 W) (p5 : Nat) (v5 : Vx W p5 0) (h5 : W3.heap.size ≤ p5) (p6 : Nat) (v6 : Vx W p6 0) (h6 : W3.heap.size ≤ p6) (n56 : p5 ≠ p6),R 16 #[Ix,Ix,Ox,Ox,Ox,Ox,Ox,Ox,Ox,Ox,Ox,Ox,Ox,Ox,Ox,Ix,Ix,Ox,Ox,Ox] { tmps := #[ρ e,u,ρ s,ρ lb,V15,ρ p5,ρ p6,u,V8,ρ e,V10,V11,V12,V8,V14,V15,V15,u,u,u,u,u,u,u,u,u,u,u,u,u,u,u,u,u,u,u,u,u,u,u,ρ e,ρ e,u,u,u,u,u,u,u,u,u,u,u,u,u,u,u,u,u,u,u,u,u,u,u,u,u,u,u,u,u,u,u,u],defers := [] } W := by
    intro W acc p5 v5 h5 p6 v6 h6 n56
    rw [← hR]
    dsimp only [ρ]
    have e0 := (he.below acc zE).cell0
    have e1 := (he.below acc zE).cell1
    refine wpAnyIn_ready (rs := [2,5]) (by kernel_rfl) (by simp) (AllReadyIn.cons rfl (fun K hK => ?_) (AllReadyIn.cons rfl (fun K hK => ?_) (AllReadyIn.nil)))
    · go_simp; exact hK _ _ (U _ _ _ _ (H103 W acc p5 v5 h5 p6 v6 h6 n56))
    · go_simp; exact hK _ _ (U _ _ _ _ (H119 W acc p5 v5 h5 p6 v6 h6 n56))
  have H124 : ∀ (W : World) (acc : Bx W3 W) (p5 : Nat) (v5 : Vx W p5 0) (h5 : W3.heap.size ≤ p5),R 17 #[Ix,Ix,Ox,Ox,Ox,Ox,Ox,Ox,Ox,Ox,Ox,Ox,Ox,Ox,Ox,Ix,Ox,Ox,Ox,Ox] { tmps := #[ρ e,u,ρ s,ρ lb,V15,ρ p5,u,u,V8,ρ e,V10,V11,V12,V8,V14,V15,V15,u,u,u,u,u,u,u,u,u,u,u,u,u,u,u,u,u,u,u,u,u,u,u,ρ e,ρ e,u,u,u,u,u,u,u,u,u,u,u,u,u,u,u,u,u,u,u,u,u,u,u,u,u,u,u,u,u,u,u,u],defers := [] } W := by
    intro W acc p5 v5 h5
    rw [← hR]
    dsimp only [ρ]
    have e0 := (he.below acc zE).cell0
    have e1 := (he.below acc zE).cell1
    refine wpAnyIn_ready (rs := [2,5,16]) (by kernel_rfl) (by simp) (AllReadyIn.cons rfl (fun K hK => ?_) (AllReadyIn.cons rfl (fun K hK => ?_) (AllReadyIn.cons rfl (fun K hK => ?_) (AllReadyIn.nil))))
    · go_simp; exact hK _ _ (U _ _ _ _ (H104 W acc p5 v5 h5))
    · go_simp; exact hK _ _ (U _ _ _ _ (H120 W acc p5 v5 h5))
    · go_simp; exact hK _ _ (U _ _ _ _ (H123 (W.alloc (.cells #[.int .u64 0,.slice none 0 0] 25)) (acc.alloc acc.size _) p5 (v5.alloc _) h5 W.heap.size (Var.new W _ _ _ _ _ rfl) acc.size (Nat.ne_of_lt v5.lt)))
  have H125 : ∀ (W : World) (acc : Bx W3 W) (p6 : Nat) (v6 : Vx W p6 0) (h6 : W3.heap.size ≤ p6),R 17 #[Ix,Ix,Ox,Ox,Ox,Ox,Ox,Ox,Ox,Ox,Ox,Ox,Ox,Ox,Ox,Ox,Ix,Ox,Ox,Ox] { tmps := #[ρ e,u,ρ s,ρ lb,V15,u,ρ p6,u,V8,ρ e,V10,V11,V12,V8,V14,V15,V15,u,u,u,u,u,u,u,u,u,u,u,u,u,u,u,u,u,u,u,u,u,u,u,ρ e,ρ e,u,u,u,u,u,u,u,u,u,u,u,u,u,u,u,u,u,u,u,u,u,u,u,u,u,u,u,u,u,u,u,u],defers := [] } W := by
    intro W acc p6 v6 h6
    rw [← hR]
    dsimp only [ρ]
    have e0 := (he.below acc zE).cell0
    have e1 := (he.below acc zE).cell1
    refine wpAnyIn_ready (rs := [2,5,15]) (by kernel_rfl) (by simp) (AllReadyIn.cons rfl (fun K hK => ?_) (AllReadyIn.cons rfl (fun K hK => ?_) (AllReadyIn.cons rfl (fun K hK => ?_) (AllReadyIn.nil))))
    · go_simp; exact hK _ _ (U _ _ _ _ (H105 W acc p6 v6 h6))
    · go_simp; exact hK _ _ (U _ _ _ _ (H121 W acc p6 v6 h6))
    · go_simp; exact hK _ _ (U _ _ _ _ (H123 (W.alloc (.cells #[.int .u64 0,.slice none 0 0] 25)) (acc.alloc acc.size _) W.heap.size (Var.new W _ _ _ _ _ rfl) acc.size p6 (v6.alloc _) h6 (Nat.ne_of_gt v6.lt)))
  have H126 : ∀ (W : World) (acc : Bx W3 W),R 18 #[Ix,Ix,Ox,Ox,Ox,Ox,Ox,Ox,Ox,Ox,Ox,Ox,Ox,Ox,Ox,Ox,Ox,Ox,Ox,Ox] { tmps := #[ρ e,u,ρ s,ρ lb,V15,u,u,u,V8,ρ e,V10,V11,V12,V8,V14,V15,V15,u,u,u,u,u,u,u,u,u,u,u,u,u,u,u,u,u,u,u,u,u,u,u,ρ e,ρ e,u,u,u,u,u,u,u,u,u,u,u,u,u,u,u,u,u,u,u,u,u,u,u,u,u,u,u,u,u,u,u,u],defers := [] } W := by
    intro W acc
    rw [← hR]
    dsimp only [ρ]
    have e0 := (he.below acc zE).cell0
    have e1 := (he.below acc zE).cell1
    refine wpAnyIn_ready (rs := [2,5,15,16]) (by kernel_rfl) (by simp) (AllReadyIn.cons rfl (fun K hK => ?_) (AllReadyIn.cons rfl (fun K hK => ?_) (AllReadyIn.cons rfl (fun K hK => ?_) (AllReadyIn.cons rfl (fun K hK => ?_) (AllReadyIn.nil)))))
    · go_simp; exact hK _ _ (U _ _ _ _ (H106 W acc))
    · go_simp; exact hK _ _ (U _ _ _ _ (H122 W acc))
    · go_simp; exact hK _ _ (U _ _ _ _ (H124 (W.alloc (.cells #[.int .u64 0,.slice none 0 0] 25)) (acc.alloc acc.size _) W.heap.size (Var.new W _ _ _ _ _ rfl) acc.size))
    · go_simp; exact hK _ _ (U _ _ _ _ (H125 (W.alloc (.cells #[.int .u64 0,.slice none 0 0] 25)) (acc.alloc acc.size _) W.heap.size (Var.new W _ _ _ _ _ rfl) acc.size))
  have H127 : ∀ (W : World) (acc : Bx W3 W) (p5 : Nat) (v5 : Vx W p5 0) (h5 : W3.heap.size ≤ p5) (p6 : Nat) (v6 : Vx W p6 0) (h6 : W3.heap.size ≤ p6) (n56 : p5 ≠ p6),R 13 #[Ix,Ox,Ox,Ox,Ox,Ix,Ix,Ix,Ix,Ox,Ox,Ox,Ox,Ox,Ox,Ix,Ix,Ox,Ox,Ox] { tmps := #[ρ e,u,ρ s,ρ lb,V15,ρ p5,ρ p6,u,V8,ρ e,V10,V11,V12,V8,V14,V15,V15,u,u,u,u,u,u,u,u,u,u,u,u,u,u,u,u,u,u,u,u,u,u,u,ρ e,u,u,u,u,ρ e,ρ e,.pointer (some ⟨e,1,none⟩),ς gb 1 cb,u,u,u,u,u,u,u,u,u,u,u,u,u,u,u,u,u,u,u,u,u,u,u,u,u],defers := [] } W := by
    intro W acc p5 v5 h5 p6 v6 h6 n56
    rw [← hR]
    dsimp only [ρ,ς]
    have e0 := (he.below acc zE).cell0
    refine wpAnyIn_ready (rs := [1]) (by kernel_rfl) (by simp) (AllReadyIn.cons rfl (fun K hK => ?_) (AllReadyIn.nil))
    · go_simp; exact hK _ _ (U _ _ _ _ (H107 W acc p5 v5 h5 p6 v6 h6 n56))
  have H128 : ∀ (W : World) (acc : Bx W3 W) (p5 : Nat) (v5 : Vx W p5 0) (h5 : W3.heap.size ≤ p5),R 14 #[Ix,Ox,Ox,Ox,Ox,Ix,Ix,Ix,Ix,Ox,Ox,Ox,Ox,Ox,Ox,Ix,Ox,Ox,Ox,Ox] { tmps := #[ρ e,u,ρ s,ρ lb,V15,ρ p5,u,u,V8,ρ e,V10,V11,V12,V8,V14,V15,V15,u,u,u,u,u,u,u,u,u,u,u,u,u,u,u,u,u,u,u,u,u,u,u,ρ e,u,u,u,u,ρ e,ρ e,.pointer (some ⟨e,1,none⟩),ς gb 1 cb,u,u,u,u,u,u,u,u,u,u,u,u,u,u,u,u,u,u,u,u,u,u,u,u,u],defers := [] } W := by
    intro W acc p5 v5 h5
    rw [← hR]
    dsimp only [ρ,ς]
    have e0 := (he.below acc zE).cell0
    refine wpAnyIn_ready (rs := [1,16]) (by kernel_rfl) (by simp) (AllReadyIn.cons rfl (fun K hK => ?_) (AllReadyIn.cons rfl (fun K hK => ?_) (AllReadyIn.nil)))
    · go_simp; exact hK _ _ (U _ _ _ _ (H108 W acc p5 v5 h5))
    · go_simp; exact hK _ _ (U _ _ _ _ (H127 (W.alloc (.cells #[.int .u64 0,.slice none 0 0] 25)) (acc.alloc acc.size _) p5 (v5.alloc _) h5 W.heap.size (Var.new W _ _ _ _ _ rfl) acc.size (Nat.ne_of_lt v5.lt)))
  have H129 : ∀ (W : World) (acc : Bx W3 W) (p6 : Nat) (v6 : Vx W p6 0) (h6 : W3.heap.size ≤ p6),R 14 #[Ix,Ox,Ox,Ox,Ox,Ix,Ix,Ix,Ix,Ox,Ox,Ox,Ox,Ox,Ox,Ox,Ix,Ox,Ox,Ox] { tmps := #[ρ e,u,ρ s,ρ lb,V15,u,ρ p6,u,V8,ρ e,V10,V11,V12,V8,V14,V15,V15,u,u,u,u,u,u,u,u,u,u,u,u,u,u,u,u,u,u,u,u,u,u,u,ρ e,u,u,u,u,ρ e,ρ e,.pointer (some ⟨e,1,none⟩),ς gb 1 cb,u,u,u,u,u,u,u,u,u,u,u,u,u,u,u,u,u,u,u,u,u,u,u,u,u],defers := [] } W := by
    intro W acc p6 v6 h6
    rw [← hR]
    dsimp only [ρ,ς]
    have e0 := (he.below acc zE).cell0
    refine wpAnyIn_ready (rs := [1,15]) (by kernel_rfl) (by simp) (AllReadyIn.cons rfl (fun K hK => ?_) (AllReadyIn.cons rfl (fun K hK => ?_) (AllReadyIn.nil)))
    · go_simp; exact hK _ _ (U _ _ _ _ (H109 W acc p6 v6 h6))
    · go_simp; exact hK _ _ (U _ _ _ _ (H127 (W.alloc (.cells #[.int .u64 0,.slice none 0 0] 25)) (acc.alloc acc.size _) W.heap.size (Var.new W _ _ _ _ _ rfl) acc.size p6 (v6.alloc _) h6 (Nat.ne_of_gt v6.lt)))
  have H130 : ∀ (W : World) (acc : Bx W3 W),R 15 #[Ix,Ox,Ox,Ox,Ox,Ix,Ix,Ix,Ix,Ox,Ox,Ox,Ox,Ox,Ox,Ox,Ox,Ox,Ox,Ox] { tmps := #[ρ e,u,ρ s,ρ lb,V15,u,u,u,V8,ρ e,V10,V11,V12,V8,V14,V15,V15,u,u,u,u,u,u,u,u,u,u,u,u,u,u,u,u,u,u,u,u,u,u,u,ρ e,u,u,u,u,ρ e,ρ e,.pointer (some ⟨e,1,none⟩),ς gb 1 cb,u,u,u,u,u,u,u,u,u,u,u,u,u,u,u,u,u,u,u,u,u,u,u,u,u],defers := [] } W := by
    intro W acc
    rw [← hR]
    dsimp only [ρ,ς]
    have e0 := (he.below acc zE).cell0
    refine wpAnyIn_ready (rs := [1,15,16]) (by kernel_rfl) (by simp) (AllReadyIn.cons rfl (fun K hK => ?_) (AllReadyIn.cons rfl (fun K hK => ?_) (AllReadyIn.cons rfl (fun K hK => ?_) (AllReadyIn.nil))))
    · go_simp; exact hK _ _ (U _ _ _ _ (H110 W acc))
    · go_simp; exact hK _ _ (U _ _ _ _ (H128 (W.alloc (.cells #[.int .u64 0,.slice none 0 0] 25)) (acc.alloc acc.size _) W.heap.size (Var.new W _ _ _ _ _ rfl) acc.size))
    · go_simp; exact hK _ _ (U _ _ _ _ (H129 (W.alloc (.cells #[.int .u64 0,.slice none 0 0] 25)) (acc.alloc acc.size _) W.heap.size (Var.new W _ _ _ _ _ rfl) acc.size))
  have H131 : ∀ (W : World) (acc : Bx W3 W) (p5 : Nat) (v5 : Vx W p5 0) (h5 : W3.heap.size ≤ p5) (p6 : Nat) (v6 : Vx W p6 0) (h6 : W3.heap.size ≤ p6) (n56 : p5 ≠ p6),R 14 #[Ix,Ox,Ox,Ox,Ox,Ix,Ix,Ix,Ox,Ox,Ox,Ox,Ox,Ox,Ox,Ix,Ix,Ox,Ox,Ox] { tmps := #[ρ e,u,ρ s,ρ lb,V15,ρ p5,ρ p6,u,V8,ρ e,V10,V11,V12,V8,V14,V15,V15,u,u,u,u,u,u,u,u,u,u,u,u,u,u,u,u,u,u,u,u,u,u,u,ρ e,u,u,u,u,ρ e,ρ e,.pointer (some ⟨e,1,none⟩),u,u,u,u,u,u,u,u,u,u,u,u,u,u,u,u,u,u,u,u,u,u,u,u,u,u],defers := [] } W := by
    intro W acc p5 v5 h5 p6 v6 h6 n56
    rw [← hR]
    dsimp only [ρ]
    have e0 := (he.below acc zE).cell0
    have e1 := (he.below acc zE).cell1
    refine wpAnyIn_ready (rs := [1,8]) (by kernel_rfl) (by simp) (AllReadyIn.cons rfl (fun K hK => ?_) (AllReadyIn.cons rfl (fun K hK => ?_) (AllReadyIn.nil)))
    · go_simp; exact hK _ _ (U _ _ _ _ (H111 W acc p5 v5 h5 p6 v6 h6 n56))
    · go_simp; exact hK _ _ (U _ _ _ _ (H127 W acc p5 v5 h5 p6 v6 h6 n56))
  have H132 : ∀ (W : World) (acc : Bx W3 W) (p5 : Nat) (v5 : Vx W p5 0) (h5 : W3.heap.size ≤ p5),R 15 #[Ix,Ox,Ox,Ox,Ox,Ix,Ix,Ix,Ox,Ox,Ox,Ox,Ox,Ox,Ox,Ix,Ox,Ox,Ox,Ox] { tmps := #[ρ e,u,ρ s,ρ lb,V15,ρ p5,u,u,V8,ρ e,V10,V11,V12,V8,V14,V15,V15,u,u,u,u,u,u,u,u,u,u,u,u,u,u,u,u,u,u,u,u,u,u,u,ρ e,u,u,u,u,ρ e,ρ e,.pointer (some ⟨e,1,none⟩),u,u,u,u,u,u,u,u,u,u,u,u,u,u,u,u,u,u,u,u,u,u,u,u,u,u],defers := [] } W := by
    intro W acc p5 v5 h5
    rw [← hR]
    dsimp only [ρ]
    have e0 := (he.below acc zE).cell0
    have e1 := (he.below acc zE).cell1
    refine wpAnyIn_ready (rs := [1,8,16]) (by kernel_rfl) (by simp) (AllReadyIn.cons rfl (fun K hK => ?_) (AllReadyIn.cons rfl (fun K hK => ?_) (AllReadyIn.cons rfl (fun K hK => ?_) (AllReadyIn.nil))))
    · go_simp; exact hK _ _ (U _ _ _ _ (H112 W acc p5 v5 h5))
    · go_simp; exact hK _ _ (U _ _ _ _ (H128 W acc p5 v5 h5))
    · go_simp; exact hK _ _ (U _ _ _ _ (H131 (W.alloc (.cells #[.int .u64 0,.slice none 0 0] 25)) (acc.alloc acc.size _) p5 (v5.alloc _) h5 W.heap.size (Var.new W _ _ _ _ _ rfl) acc.size (Nat.ne_of_lt v5.lt)))
  have H133 : ∀ (W : World) (acc : Bx W3 W) (p6 : Nat) (v6 : Vx W p6 0) (h6 : W3.heap.size ≤ p6),R 15 #[Ix,Ox,Ox,Ox,Ox,Ix,Ix,Ix,Ox,Ox,Ox,Ox,Ox,Ox,Ox,Ox,Ix,Ox,Ox,Ox] { tmps := #[ρ e,u,ρ s,ρ lb,V15,u,ρ p6,u,V8,ρ e,V10,V11,V12,V8,V14,V15,V15,u,u,u,u,u,u,u,u,u,u,u,u,u,u,u,u,u,u,u,u,u,u,u,ρ e,u,u,u,u,ρ e,ρ e,.pointer (some ⟨e,1,none⟩),u,u,u,u,u,u,u,u,u,u,u,u,u,u,u,u,u,u,u,u,u,u,u,u,u,u],defers := [] } W := by
    intro W acc p6 v6 h6
    rw [← hR]
    dsimp only [ρ]
    have e0 := (he.below acc zE).cell0
    have e1 := (he.below acc zE).cell1
    refine wpAnyIn_ready (rs := [1,8,15]) (by kernel_rfl) (by simp) (AllReadyIn.cons rfl (fun K hK => ?_) (AllReadyIn.cons rfl (fun K hK => ?_) (AllReadyIn.cons rfl (fun K hK => ?_) (AllReadyIn.nil))))
    · go_simp; exact hK _ _ (U _ _ _ _ (H113 W acc p6 v6 h6))
    · go_simp; exact hK _ _ (U _ _ _ _ (H129 W acc p6 v6 h6))
    · go_simp; exact hK _ _ (U _ _ _ _ (H131 (W.alloc (.cells #[.int .u64 0,.slice none 0 0] 25)) (acc.alloc acc.size _) W.heap.size (Var.new W _ _ _ _ _ rfl) acc.size p6 (v6.alloc _) h6 (Nat.ne_of_gt v6.lt)))
  have H134 : ∀ (W : World) (acc : Bx W3 W),R 16 #[Ix,Ox,Ox,Ox,Ox,Ix,Ix,Ix,Ox,Ox,Ox,Ox,Ox,Ox,Ox,Ox,Ox,Ox,Ox,Ox] { tmps := #[ρ e,u,ρ s,ρ lb,V15,u,u,u,V8,ρ e,V10,V11,V12,V8,V14,V15,V15,u,u,u,u,u,u,u,u,u,u,u,u,u,u,u,u,u,u,u,u,u,u,u,ρ e,u,u,u,u,ρ e,ρ e,.pointer (some ⟨e,1,none⟩),u,u,u,u,u,u,u,u,u,u,u,u,u,u,u,u,u,u,u,u,u,u,u,u,u,u],defers := [] } W := by
    intro W acc
    rw [← hR]
    dsimp only [ρ]
    have e0 := (he.below acc zE).cell0
    have e1 := (he.below acc zE).cell1
    refine wpAnyIn_ready (rs := [1,8,15,16]) (by kernel_rfl) (by simp) (AllReadyIn.cons rfl (fun K hK => ?_) (AllReadyIn.cons rfl (fun K hK => ?_) (AllReadyIn.cons rfl (fun K hK => ?_) (AllReadyIn.cons rfl (fun K hK => ?_) (AllReadyIn.nil)))))
    · go_simp; exact hK _ _ (U _ _ _ _ (H114 W acc))
    · go_simp; exact hK _ _ (U _ _ _ _ (H130 W acc))
    · go_simp; exact hK _ _ (U _ _ _ _ (H132 (W.alloc (.cells #[.int .u64 0,.slice none 0 0] 25)) (acc.alloc acc.size _) W.heap.size (Var.new W _ _ _ _ _ rfl) acc.size))
    · go_simp; exact hK _ _ (U _ _ _ _ (H133 (W.alloc (.cells #[.int .u64 0,.slice none 0 0] 25)) (acc.alloc acc.size _) W.heap.size (Var.new W _ _ _ _ _ rfl) acc.size))
  have H135 : ∀ (W : World) (acc : Bx W3 W) (p5 : Nat) (v5 : Vx W p5 0) (h5 : W3.heap.size ≤ p5) (p6 : Nat) (v6 : Vx W p6 0) (h6 : W3.heap.size ≤ p6) (n56 : p5 ≠ p6),R 15 #[Ix,Ox,Ox,Ox,Ox,Ix,Ix,Ox,Ox,Ox,Ox,Ox,Ox,Ox,Ox,Ix,Ix,Ox,Ox,Ox] { tmps := #[ρ e,u,ρ s,ρ lb,V15,ρ p5,ρ p6,u,V8,ρ e,V10,V11,V12,V8,V14,V15,V15,u,u,u,u,u,u,u,u,u,u,u,u,u,u,u,u,u,u,u,u,u,u,u,ρ e,u,u,u,u,ρ e,ρ e,u,u,u,u,u,u,u,u,u,u,u,u,u,u,u,u,u,u,u,u,u,u,u,u,u,u,u],defers := [] } W := by
    intro W acc p5 v5 h5 p6 v6 h6 n56
    rw [← hR]
    dsimp only [ρ]
    have e0 := (he.below acc zE).cell0
    have e1 := (he.below acc zE).cell1
    refine wpAnyIn_ready (rs := [1,7]) (by kernel_rfl) (by simp) (AllReadyIn.cons rfl (fun K hK => ?_) (AllReadyIn.cons rfl (fun K hK => ?_) (AllReadyIn.nil)))
    · go_simp; exact hK _ _ (U _ _ _ _ (H115 W acc p5 v5 h5 p6 v6 h6 n56))
    · go_simp; exact hK _ _ (U _ _ _ _ (H131 W acc p5 v5 h5 p6 v6 h6 n56))
  have H136 : ∀ (W : World) (acc : Bx W3 W) (p5 : Nat) (v5 : Vx W p5 0) (h5 : W3.heap.size ≤ p5),R 16 #[Ix,Ox,Ox,Ox,Ox,Ix,Ix,Ox,Ox,Ox,Ox,Ox,Ox,Ox,Ox,Ix,Ox,Ox,Ox,Ox] { tmps := #[ρ e,u,ρ s,ρ lb,V15,ρ p5,u,u,V8,ρ e,V10,V11,V12,V8,V14,V15,V15,u,u,u,u,u,u,u,u,u,u,u,u,u,u,u,u,u,u,u,u,u,u,u,ρ e,u,u,u,u,ρ e,ρ e,u,u,u,u,u,u,u,u,u,u,u,u,u,u,u,u,u,u,u,u,u,u,u,u,u,u,u],defers := [] } W := by
    intro W acc p5 v5 h5
    rw [← hR]
    dsimp only [ρ]
    have e0 := (he.below acc zE).cell0
    have e1 := (he.below acc zE).cell1
    refine wpAnyIn_ready (rs := [1,7,16]) (by kernel_rfl) (by simp) (AllReadyIn.cons rfl (fun K hK => ?_) (AllReadyIn.cons rfl (fun K hK => ?_) (AllReadyIn.cons rfl (fun K hK => ?_) (AllReadyIn.nil))))
    · go_simp; exact hK _ _ (U _ _ _ _ (H116 W acc p5 v5 h5))
    · go_simp; exact hK _ _ (U _ _ _ _ (H132 W acc p5 v5 h5))
    · go_simp; exact hK _ _ (U _ _ _ _ (H135 (W.alloc (.cells #[.int .u64 0,.slice none 0 0] 25)) (acc.alloc acc.size _) p5 (v5.alloc _) h5 W.heap.size (Var.new W _ _ _ _ _ rfl) acc.size (Nat.ne_of_lt v5.lt)))
  have H137 : ∀ (W : World) (acc : Bx W3 W) (p6 : Nat) (v6 : Vx W p6 0) (h6 : W3.heap.size ≤ p6),R 16 #[Ix,Ox,Ox,Ox,Ox,Ix,Ix,Ox,Ox,Ox,Ox,Ox,Ox,Ox,Ox,Ox,Ix,Ox,Ox,Ox] { tmps := #[ρ e,u,ρ s,ρ lb,V15,u,ρ p6,u,V8,ρ e,V10,V11,V12,V8,V14,V15,V15,u,u,u,u,u,u,u,u,u,u,u,u,u,u,u,u,u,u,u,u,u,u,u,ρ e,u,u,u,u,ρ e,ρ e,u,u,u,u,u,u,u,u,u,u,u,u,u,u,u,u,u,u,u,u,u,u,u,u,u,u,u],defers := [] } W := by
    intro W acc p6 v6 h6
    rw [← hR]
    dsimp only [ρ]
    have e0 := (he.below acc zE).cell0
    have e1 := (he.below acc zE).cell1
    refine wpAnyIn_ready (rs := [1,7,15]) (by kernel_rfl) (by simp) (AllReadyIn.cons rfl (fun K hK => ?_) (AllReadyIn.cons rfl (fun K hK => ?_) (AllReadyIn.cons rfl (fun K hK => ?_) (AllReadyIn.nil))))
    · go_simp; exact hK _ _ (U _ _ _ _ (H117 W acc p6 v6 h6))
    · go_simp; exact hK _ _ (U _ _ _ _ (H133 W acc p6 v6 h6))
    · go_simp; exact hK _ _ (U _ _ _ _ (H135 (W.alloc (.cells #[.int .u64 0,.slice none 0 0] 25)) (acc.alloc acc.size _) W.heap.size (Var.new W _ _ _ _ _ rfl) acc.size p6 (v6.alloc _) h6 (Nat.ne_of_gt v6.lt)))
  have H138 : ∀ (W : World) (acc : Bx W3 W),R 17 #[Ix,Ox,Ox,Ox,Ox,Ix,Ix,Ox,Ox,Ox,Ox,Ox,Ox,Ox,Ox,Ox,Ox,Ox,Ox,Ox] { tmps := #[ρ e,u,ρ s,ρ lb,V15,u,u,u,V8,ρ e,V10,V11,V12,V8,V14,V15,V15,u,u,u,u,u,u,u,u,u,u,u,u,u,u,u,u,u,u,u,u,u,u,u,ρ e,u,u,u,u,ρ e,ρ e,u,u,u,u,u,u,u,u,u,u,u,u,u,u,u,u,u,u,u,u,u,u,u,u,u,u,u],defers := [] } W := by
    intro W acc
    rw [← hR]
    dsimp only [ρ]
    have e0 := (he.below acc zE).cell0
    have e1 := (he.below acc zE).cell1
    refine wpAnyIn_ready (rs := [1,7,15,16]) (by kernel_rfl) (by simp) (AllReadyIn.cons rfl (fun K hK => ?_) (AllReadyIn.cons rfl (fun K hK => ?_) (AllReadyIn.cons rfl (fun K hK => ?_) (AllReadyIn.cons rfl (fun K hK => ?_) (AllReadyIn.nil)))))
    · go_simp; exact hK _ _ (U _ _ _ _ (H118 W acc))
    · go_simp; exact hK _ _ (U _ _ _ _ (H134 W acc))
    · go_simp; exact hK _ _ (U _ _ _ _ (H136 (W.alloc (.cells #[.int .u64 0,.slice none 0 0] 25)) (acc.alloc acc.size _) W.heap.size (Var.new W _ _ _ _ _ rfl) acc.size))
    · go_simp; exact hK _ _ (U _ _ _ _ (H137 (W.alloc (.cells #[.int .u64 0,.slice none 0 0] 25)) (acc.alloc acc.size _) W.heap.size (Var.new W _ _ _ _ _ rfl) acc.size))
  have H139 : ∀ (W : World) (acc : Bx W3 W) (p5 : Nat) (v5 : Vx W p5 0) (h5 : W3.heap.size ≤ p5) (p6 : Nat) (v6 : Vx W p6 0) (h6 : W3.heap.size ≤ p6) (n56 : p5 ≠ p6),R 16 #[Ix,Ox,Ox,Ox,Ox,Ix,Ox,Ox,Ox,Ox,Ox,Ox,Ox,Ox,Ox,Ix,Ix,Ox,Ox,Ox] { tmps := #[ρ e,u,ρ s,ρ lb,V15,ρ p5,ρ p6,u,V8,ρ e,V10,V11,V12,V8,V14,V15,V15,u,u,u,u,u,u,u,u,u,u,u,u,u,u,u,u,u,u,u,u,u,u,u,ρ e,u,u,u,u,ρ e,u,u,u,u,u,u,u,u,u,u,u,u,u,u,u,u,u,u,u,u,u,u,u,u,u,u,u,u],defers := [] } W := by
    intro W acc p5 v5 h5 p6 v6 h6 n56
    rw [← hR]
    dsimp only [ρ]
    have e0 := (he.below acc zE).cell0
    have e1 := (he.below acc zE).cell1
    refine wpAnyIn_ready (rs := [1,6]) (by kernel_rfl) (by simp) (AllReadyIn.cons rfl (fun K hK => ?_) (AllReadyIn.cons rfl (fun K hK => ?_) (AllReadyIn.nil)))
    · go_simp; exact hK _ _ (U _ _ _ _ (H119 W acc p5 v5 h5 p6 v6 h6 n56))
    · go_simp; exact hK _ _ (U _ _ _ _ (H135 W acc p5 v5 h5 p6 v6 h6 n56))
  have H140 : ∀ (W : World) (acc : Bx W3 W) (p5 : Nat) (v5 : Vx W p5 0) (h5 : W3.heap.size ≤ p5),R 17 #[Ix,Ox,Ox,Ox,Ox,Ix,Ox,Ox,Ox,Ox,Ox,Ox,Ox,Ox,Ox,Ix,Ox,Ox,Ox,Ox] { tmps := #[ρ e,u,ρ s,ρ lb,V15,ρ p5,u,u,V8,ρ e,V10,V11,V12,V8,V14,V15,V15,u,u,u,u,u,u,u,u,u,u,u,u,u,u,u,u,u,u,u,u,u,u,u,ρ e,u,u,u,u,ρ e,u,u,u,u,u,u,u,u,u,u,u,u,u,u,u,u,u,u,u,u,u,u,u,u,u,u,u,u],defers := [] } W := by
    intro W acc p5 v5 h5
    rw [← hR]
    dsimp only [ρ]
    have e0 := (he.below acc zE).cell0
    have e1 := (he.below acc zE).cell1
    refine wpAnyIn_ready (rs := [1,6,16]) (by kernel_rfl) (by simp) (AllReadyIn.cons rfl (fun K hK => ?_) (AllReadyIn.cons rfl (fun K hK => ?_) (AllReadyIn.cons rfl (fun K hK => ?_) (AllReadyIn.nil))))
    · go_simp; exact hK _ _ (U _ _ _ _ (H120 W acc p5 v5 h5))
    · go_simp; exact hK _ _ (U _ _ _ _ (H136 W acc p5 v5 h5))
    · go_simp; exact hK _ _ (U _ _ _ _ (H139 (W.alloc (.cells #[.int .u64 0,.slice none 0 0] 25)) (acc.alloc acc.size _) p5 (v5.alloc _) h5 W.heap.size (Var.new W _ _ _ _ _ rfl) acc.size (Nat.ne_of_lt v5.lt)))
  have H141 : ∀ (W : World) (acc : Bx W3 W) (p6 : Nat) (v6 : Vx W p6 0) (h6 : W3.heap.size ≤ p6),R 17 #[Ix,Ox,Ox,Ox,Ox,Ix,Ox,Ox,Ox,Ox,Ox,Ox,Ox,Ox,Ox,Ox,Ix,Ox,Ox,Ox] { tmps := #[ρ e,u,ρ s,ρ lb,V15,u,ρ p6,u,V8,ρ e,V10,V11,V12,V8,V14,V15,V15,u,u,u,u,u,u,u,u,u,u,u,u,u,u,u,u,u,u,u,u,u,u,u,ρ e,u,u,u,u,ρ e,u,u,u,u,u,u,u,u,u,u,u,u,u,u,u,u,u,u,u,u,u,u,u,u,u,u,u,u],defers := [] } W := by
    intro W acc p6 v6 h6
    rw [← hR]
    dsimp only [ρ]
    have e0 := (he.below acc zE).cell0
    have e1 := (he.below acc zE).cell1
    refine wpAnyIn_ready (rs := [1,6,15]) (by kernel_rfl) (by simp) (AllReadyIn.cons rfl (fun K hK => ?_) (AllReadyIn.cons rfl (fun K hK => ?_) (AllReadyIn.cons rfl (fun K hK => ?_) (AllReadyIn.nil))))
    · go_simp; exact hK _ _ (U _ _ _ _ (H121 W acc p6 v6 h6))
    · go_simp; exact hK _ _ (U _ _ _ _ (H137 W acc p6 v6 h6))
    · go_simp; exact hK _ _ (U _ _ _ _ (H139 (W.alloc (.cells #[.int .u64 0,.slice none 0 0] 25)) (acc.alloc acc.size _) W.heap.size (Var.new W _ _ _ _ _ rfl) acc.size p6 (v6.alloc _) h6 (Nat.ne_of_gt v6.lt)))
  have H142 : ∀ (W : World) (acc : Bx W3 W),R 18 #[Ix,Ox,Ox,Ox,Ox,Ix,Ox,Ox,Ox,Ox,Ox,Ox,Ox,Ox,Ox,Ox,Ox,Ox,Ox,Ox] { tmps := #[ρ e,u,ρ s,ρ lb,V15,u,u,u,V8,ρ e,V10,V11,V12,V8,V14,V15,V15,u,u,u,u,u,u,u,u,u,u,u,u,u,u,u,u,u,u,u,u,u,u,u,ρ e,u,u,u,u,ρ e,u,u,u,u,u,u,u,u,u,u,u,u,u,u,u,u,u,u,u,u,u,u,u,u,u,u,u,u],defers := [] } W := by
    intro W acc
    rw [← hR]
    dsimp only [ρ]
    have e0 := (he.below acc zE).cell0
    have e1 := (he.below acc zE).cell1
    refine wpAnyIn_ready (rs := [1,6,15,16]) (by kernel_rfl) (by simp) (AllReadyIn.cons rfl (fun K hK => ?_) (AllReadyIn.cons rfl (fun K hK => ?_) (AllReadyIn.cons rfl (fun K hK => ?_) (AllReadyIn.cons rfl (fun K hK => ?_) (AllReadyIn.nil)))))
    · go_simp; exact hK _ _ (U _ _ _ _ (H122 W acc))
    · go_simp; exact hK _ _ (U _ _ _ _ (H138 W acc))
    · go_simp; exact hK _ _ (U _ _ _ _ (H140 (W.alloc (.cells #[.int .u64 0,.slice none 0 0] 25)) (acc.alloc acc.size _) W.heap.size (Var.new W _ _ _ _ _ rfl) acc.size))
    · go_simp; exact hK _ _ (U _ _ _ _ (H141 (W.alloc (.cells #[.int .u64 0,.slice none 0 0] 25)) (acc.alloc acc.size _) W.heap.size (Var.new W _ _ _ _ _ rfl) acc.size))
  have H143 : ∀ (W : World) (acc : Bx W3 W) (p5 : Nat) (v5 : Vx W p5 0) (h5 : W3.heap.size ≤ p5) (p6 : Nat) (v6 : Vx W p6 0) (h6 : W3.heap.size ≤ p6) (n56 : p5 ≠ p6),R 17 #[Ix,Ox,Ox,Ox,Ox,Ox,Ox,Ox,Ox,Ox,Ox,Ox,Ox,Ox,Ox,Ix,Ix,Ox,Ox,Ox] { tmps := #[ρ e,u,ρ s,ρ lb,V15,ρ p5,ρ p6,u,V8,ρ e,V10,V11,V12,V8,V14,V15,V15,u,u,u,u,u,u,u,u,u,u,u,u,u,u,u,u,u,u,u,u,u,u,u,ρ e,u,u,u,u,u,u,u,u,u,u,u,u,u,u,u,u,u,u,u,u,u,u,u,u,u,u,u,u,u,u,u,u,u],defers := [] } W := by
    intro W acc p5 v5 h5 p6 v6 h6 n56
    rw [← hR]
    dsimp only [ρ]
    have e0 := (he.below acc zE).cell0
    have e1 := (he.below acc zE).cell1
    refine wpAnyIn_ready (rs := [1,5]) (by kernel_rfl) (by simp) (AllReadyIn.cons rfl (fun K hK => ?_) (AllReadyIn.cons rfl (fun K hK => ?_) (AllReadyIn.nil)))
    · go_simp; exact hK _ _ (U _ _ _ _ (H123 W acc p5 v5 h5 p6 v6 h6 n56))
    · go_simp; exact hK _ _ (U _ _ _ _ (H139 W acc p5 v5 h5 p6 v6 h6 n56))
  have H144 : ∀ (W : World) (acc : Bx W3 W) (p5 : Nat) (v5 : Vx W p5 0) (h5 : W3.heap.size ≤ p5),R 18 #[Ix,Ox,Ox,Ox,Ox,Ox,Ox,Ox,Ox,Ox,Ox,Ox,Ox,Ox,Ox,Ix,Ox,Ox,Ox,Ox] { tmps := #[ρ e,u,ρ s,ρ lb,V15,ρ p5,u,u,V8,ρ e,V10,V11,V12,V8,V14,V15,V15,u,u,u,u,u,u,u,u,u,u,u,u,u,u,u,u,u,u,u,u,u,u,u,ρ e,u,u,u,u,u,u,u,u,u,u,u,u,u,u,u,u,u,u,u,u,u,u,u,u,u,u,u,u,u,u,u,u,u],defers := [] } W := by
    intro W acc p5 v5 h5
    rw [← hR]
    dsimp only [ρ]
    have e0 := (he.below acc zE).cell0
    have e1 := (he.below acc zE).cell1
    refine wpAnyIn_ready (rs := [1,5,16]) (by kernel_rfl) (by simp) (AllReadyIn.cons rfl (fun K hK => ?_) (AllReadyIn.cons rfl (fun K hK => ?_) (AllReadyIn.cons rfl (fun K hK => ?_) (AllReadyIn.nil))))
    · go_simp; exact hK _ _ (U _ _ _ _ (H124 W acc p5 v5 h5))
    · go_simp; exact hK _ _ (U _ _ _ _ (H140 W acc p5 v5 h5))
    · go_simp; exact hK _ _ (U _ _ _ _ (H143 (W.alloc (.cells #[.int .u64 0,.slice none 0 0] 25)) (acc.alloc acc.size _) p5 (v5.alloc _) h5 W.heap.size (Var.new W _ _ _ _ _ rfl) acc.size (Nat.ne_of_lt v5.lt)))
  have H145 : ∀ (W : World) (acc : Bx W3 W) (p6 : Nat) (v6 : Vx W p6 0) (h6 : W3.heap.size ≤ p6),R 18 #[Ix,Ox,Ox,Ox,Ox,Ox,Ox,Ox,Ox,Ox,Ox,Ox,Ox,Ox,Ox,Ox,Ix,Ox,Ox,Ox] { tmps := #[ρ e,u,ρ s,ρ lb,V15,u,ρ p6,u,V8,ρ e,V10,V11,V12,V8,V14,V15,V15,u,u,u,u,u,u,u,u,u,u,u,u,u,u,u,u,u,u,u,u,u,u,u,ρ e,u,u,u,u,u,u,u,u,u,u,u,u,u,u,u,u,u,u,u,u,u,u,u,u,u,u,u,u,u,u,u,u,u],defers := [] } W := by
    intro W acc p6 v6 h6
    rw [← hR]
    dsimp only [ρ]
    have e0 := (he.below acc zE).cell0
    have e1 := (he.below acc zE).cell1
    refine wpAnyIn_ready (rs := [1,5,15]) (by kernel_rfl) (by simp) (AllReadyIn.cons rfl (fun K hK => ?_) (AllReadyIn.cons rfl (fun K hK => ?_) (AllReadyIn.cons rfl (fun K hK => ?_) (AllReadyIn.nil))))
    · go_simp; exact hK _ _ (U _ _ _ _ (H125 W acc p6 v6 h6))
    · go_simp; exact hK _ _ (U _ _ _ _ (H141 W acc p6 v6 h6))
    · go_simp; exact hK _ _ (U _ _ _ _ (H143 (W.alloc (.cells #[.int .u64 0,.slice none 0 0] 25)) (acc.alloc acc.size _) W.heap.size (Var.new W _ _ _ _ _ rfl) acc.size p6 (v6.alloc _) h6 (Nat.ne_of_gt v6.lt)))
  have H146 : ∀ (W : World) (acc : Bx W3 W),R 19 #[Ix,Ox,Ox,Ox,Ox,Ox,Ox,Ox,Ox,Ox,Ox,Ox,Ox,Ox,Ox,Ox,Ox,Ox,Ox,Ox] { tmps := #[ρ e,u,ρ s,ρ lb,V15,u,u,u,V8,ρ e,V10,V11,V12,V8,V14,V15,V15,u,u,u,u,u,u,u,u,u,u,u,u,u,u,u,u,u,u,u,u,u,u,u,ρ e,u,u,u,u,u,u,u,u,u,u,u,u,u,u,u,u,u,u,u,u,u,u,u,u,u,u,u,u,u,u,u,u,u],defers := [] } W := by
    intro W acc
    rw [← hR]
    dsimp only [ρ]
    have e0 := (he.below acc zE).cell0
    have e1 := (he.below acc zE).cell1
    refine wpAnyIn_ready (rs := [1,5,15,16]) (by kernel_rfl) (by simp) (AllReadyIn.cons rfl (fun K hK => ?_) (AllReadyIn.cons rfl (fun K hK => ?_) (AllReadyIn.cons rfl (fun K hK => ?_) (AllReadyIn.cons rfl (fun K hK => ?_) (AllReadyIn.nil)))))
    · go_simp; exact hK _ _ (U _ _ _ _ (H126 W acc))
    · go_simp; exact hK _ _ (U _ _ _ _ (H142 W acc))
    · go_simp; exact hK _ _ (U _ _ _ _ (H144 (W.alloc (.cells #[.int .u64 0,.slice none 0 0] 25)) (acc.alloc acc.size _) W.heap.size (Var.new W _ _ _ _ _ rfl) acc.size))
    · go_simp; exact hK _ _ (U _ _ _ _ (H145 (W.alloc (.cells #[.int .u64 0,.slice none 0 0] 25)) (acc.alloc acc.size _) W.heap.size (Var.new W _ _ _ _ _ rfl) acc.size))
  have H147 : ∀ (W : World) (acc : Bx W3 W) (p5 : Nat) (v5 : Vx W p5 0) (h5 : W3.heap.size ≤ p5) (p6 : Nat) (v6 : Vx W p6 0) (h6 : W3.heap.size ≤ p6) (n56 : p5 ≠ p6),R 14 #[Ox,Ox,Ox,Ox,Ox,Ix,Ix,Ix,Ix,Ox,Ox,Ox,Ox,Ox,Ox,Ix,Ix,Ox,Ox,Ox] { tmps := #[ρ e,u,ρ s,ρ lb,V15,ρ p5,ρ p6,u,V8,ρ e,V10,V11,V12,V8,V14,V15,V15,u,u,u,u,u,u,u,u,u,u,u,u,u,u,u,u,u,u,u,u,u,u,u,u,u,u,u,u,ρ e,ρ e,.pointer (some ⟨e,1,none⟩),ς gb 1 cb,u,u,u,u,u,u,u,u,u,u,u,u,u,u,u,u,u,u,u,u,u,u,u,u,u],defers := [] } W := by
    intro W acc p5 v5 h5 p6 v6 h6 n56
    rw [← hR]
    dsimp only [ρ,ς]
    have e0 := (he.below acc zE).cell0
    refine wpAnyIn_ready (rs := [0]) (by kernel_rfl) (by simp) (AllReadyIn.cons rfl (fun K hK => ?_) (AllReadyIn.nil))
    · go_simp; exact hK _ _ (U _ _ _ _ (H127 W acc p5 v5 h5 p6 v6 h6 n56))
  have H148 : ∀ (W : World) (acc : Bx W3 W) (p5 : Nat) (v5 : Vx W p5 0) (h5 : W3.heap.size ≤ p5),R 15 #[Ox,Ox,Ox,Ox,Ox,Ix,Ix,Ix,Ix,Ox,Ox,Ox,Ox,Ox,Ox,Ix,Ox,Ox,Ox,Ox] { tmps := #[ρ e,u,ρ s,ρ lb,V15,ρ p5,u,u,V8,ρ e,V10,V11,V12,V8,V14,V15,V15,u,u,u,u,u,u,u,u,u,u,u,u,u,u,u,u,u,u,u,u,u,u,u,u,u,u,u,u,ρ e,ρ e,.pointer (some ⟨e,1,none⟩),ς gb 1 cb,u,u,u,u,u,u,u,u,u,u,u,u,u,u,u,u,u,u,u,u,u,u,u,u,u],defers := [] } W := by
    intro W acc p5 v5 h5
    rw [← hR]
    dsimp only [ρ,ς]
    have e0 := (he.below acc zE).cell0
    refine wpAnyIn_ready (rs := [0,16]) (by kernel_rfl) (by simp) (AllReadyIn.cons rfl (fun K hK => ?_) (AllReadyIn.cons rfl (fun K hK => ?_) (AllReadyIn.nil)))
    · go_simp; exact hK _ _ (U _ _ _ _ (H128 W acc p5 v5 h5))
    · go_simp; exact hK _ _ (U _ _ _ _ (H147 (W.alloc (.cells #[.int .u64 0,.slice none 0 0] 25)) (acc.alloc acc.size _) p5 (v5.alloc _) h5 W.heap.size (Var.new W _ _ _ _ _ rfl) acc.size (Nat.ne_of_lt v5.lt)))
  have H149 : ∀ (W : World) (acc : Bx W3 W) (p6 : Nat) (v6 : Vx W p6 0) (h6 : W3.heap.size ≤ p6),R 15 #[Ox,Ox,Ox,Ox,Ox,Ix,Ix,Ix,Ix,Ox,Ox,Ox,Ox,Ox,Ox,Ox,Ix,Ox,Ox,Ox] { tmps := #[ρ e,u,ρ s,ρ lb,V15,u,ρ p6,u,V8,ρ e,V10,V11,V12,V8,V14,V15,V15,u,u,u,u,u,u,u,u,u,u,u,u,u,u,u,u,u,u,u,u,u,u,u,u,u,u,u,u,ρ e,ρ e,.pointer (some ⟨e,1,none⟩),ς gb 1 cb,u,u,u,u,u,u,u,u,u,u,u,u,u,u,u,u,u,u,u,u,u,u,u,u,u],defers := [] } W := by
    intro W acc p6 v6 h6
    rw [← hR]
    dsimp only [ρ,ς]
    have e0 := (he.below acc zE).cell0
    refine wpAnyIn_ready (rs := [0,15]) (by kernel_rfl) (by simp) (AllReadyIn.cons rfl (fun K hK => ?_) (AllReadyIn.cons rfl (fun K hK => ?_) (AllReadyIn.nil)))
    · go_simp; exact hK _ _ (U _ _ _ _ (H129 W acc p6 v6 h6))
    · go_simp; exact hK _ _ (U _ _ _ _ (H147 (W.alloc (.cells #[.int .u64 0,.slice none 0 0] 25)) (acc.alloc acc.size _) W.heap.size (Var.new W _ _ _ _ _ rfl) acc.size p6 (v6.alloc _) h6 (Nat.ne_of_gt v6.lt)))
  have H150 : ∀ (W : World) (acc : Bx W3 W),R 16 #[Ox,Ox,Ox,Ox,Ox,Ix,Ix,Ix,Ix,Ox,Ox,Ox,Ox,Ox,Ox,Ox,Ox,Ox,Ox,Ox] { tmps := #[ρ e,u,ρ s,ρ lb,V15,u,u,u,V8,ρ e,V10,V11,V12,V8,V14,V15,V15,u,u,u,u,u,u,u,u,u,u,u,u,u,u,u,u,u,u,u,u,u,u,u,u,u,u,u,u,ρ e,ρ e,.pointer (some ⟨e,1,none⟩),ς gb 1 cb,u,u,u,u,u,u,u,u,u,u,u,u,u,u,u,u,u,u,u,u,u,u,u,u,u],defers := [] } W := by
    intro W acc
    rw [← hR]
    dsimp only [ρ,ς]
    have e0 := (he.below acc zE).cell0
    refine wpAnyIn_ready (rs := [0,15,16]) (by kernel_rfl) (by simp) (AllReadyIn.cons rfl (fun K hK => ?_) (AllReadyIn.cons rfl (fun K hK => ?_) (AllReadyIn.cons rfl (fun K hK => ?_) (AllReadyIn.nil))))
    · go_simp; exact hK _ _ (U _ _ _ _ (H130 W acc))
    · go_simp; exact hK _ _ (U _ _ _ _ (H148 (W.alloc (.cells #[.int .u64 0,.slice none 0 0] 25)) (acc.alloc acc.size _) W.heap.size (Var.new W _ _ _ _ _ rfl) acc.size))
    · go_simp; exact hK _ _ (U _ _ _ _ (H149 (W.alloc (.cells #[.int .u64 0,.slice none 0 0] 25)) (acc.alloc acc.size _) W.heap.size (Var.new W _ _ _ _ _ rfl) acc.size))
  have H151 : ∀ (W : World) (acc : Bx W3 W) (p5 : Nat) (v5 : Vx W p5 0) (h5 : W3.heap.size ≤ p5) (p6 : Nat) (v6 : Vx W p6 0) (h6 : W3.heap.size ≤ p6) (n56 : p5 ≠ p6),R 15 #[Ox,Ox,Ox,Ox,Ox,Ix,Ix,Ix,Ox,Ox,Ox,Ox,Ox,Ox,Ox,Ix,Ix,Ox,Ox,Ox] { tmps := #[ρ e,u,ρ s,ρ lb,V15,ρ p5,ρ p6,u,V8,ρ e,V10,V11,V12,V8,V14,V15,V15,u,u,u,u,u,u,u,u,u,u,u,u,u,u,u,u,u,u,u,u,u,u,u,u,u,u,u,u,ρ e,ρ e,.pointer (some ⟨e,1,none⟩),u,u,u,u,u,u,u,u,u,u,u,u,u,u,u,u,u,u,u,u,u,u,u,u,u,u],defers := [] } W := by
    intro W acc p5 v5 h5 p6 v6 h6 n56
    rw [← hR]
    dsimp only [ρ]
    have e0 := (he.below acc zE).cell0
    have e1 := (he.below acc zE).cell1
    refine wpAnyIn_ready (rs := [0,8]) (by kernel_rfl) (by simp) (AllReadyIn.cons rfl (fun K hK => ?_) (AllReadyIn.cons rfl (fun K hK => ?_) (AllReadyIn.nil)))
    · go_simp; exact hK _ _ (U _ _ _ _ (H131 W acc p5 v5 h5 p6 v6 h6 n56))
    · go_simp; exact hK _ _ (U _ _ _ _ (H147 W acc p5 v5 h5 p6 v6 h6 n56))
  have H152 : ∀ (W : World) (acc : Bx W3 W) (p5 : Nat) (v5 : Vx W p5 0) (h5 : W3.heap.size ≤ p5),R 16 #[Ox,Ox,Ox,Ox,Ox,Ix,Ix,Ix,Ox,Ox,Ox,Ox,Ox,Ox,Ox,Ix,Ox,Ox,Ox,Ox] { tmps := #[ρ e,u,ρ s,ρ lb,V15,ρ p5,u,u,V8,ρ e,V10,V11,V12,V8,V14,V15,V15,u,u,u,u,u,u,u,u,u,u,u,u,u,u,u,u,u,u,u,u,u,u,u,u,u,u,u,u,ρ e,ρ e,.pointer (some ⟨e,1,none⟩),u,u,u,u,u,u,u,u,u,u,u,u,u,u,u,u,u,u,u,u,u,u,u,u,u,u],defers := [] } W := by
    intro W acc p5 v5 h5
    rw [← hR]
    dsimp only [ρ]
    have e0 := (he.below acc zE).cell0
    have e1 := (he.below acc zE).cell1
    refine wpAnyIn_ready (rs := [0,8,16]) (by kernel_rfl) (by simp) (AllReadyIn.cons rfl (fun K hK => ?_) (AllReadyIn.cons rfl (fun K hK => ?_) (AllReadyIn.cons rfl (fun K hK => ?_) (AllReadyIn.nil))))
    · go_simp; exact hK _ _ (U _ _ _ _ (H132 W acc p5 v5 h5))
    · go_simp; exact hK _ _ (U _ _ _ _ (H148 W acc p5 v5 h5))
    · go_simp; exact hK _ _ (U _ _ _ _ (H151 (W.alloc (.cells #[.int .u64 0,.slice none 0 0] 25)) (acc.alloc acc.size _) p5 (v5.alloc _) h5 W.heap.size (Var.new W _ _ _ _ _ rfl) acc.size (Nat.ne_of_lt v5.lt)))
  have H153 : ∀ (W : World) (acc : Bx W3 W) (p6 : Nat) (v6 : Vx W p6 0) (h6 : W3.heap.size ≤ p6),R 16 #[Ox,Ox,Ox,Ox,Ox,Ix,Ix,Ix,Ox,Ox,Ox,Ox,Ox,Ox,Ox,Ox,Ix,Ox,Ox,Ox] { tmps := #[ρ e,u,ρ s,ρ lb,V15,u,ρ p6,u,V8,ρ e,V10,V11,V12,V8,V14,V15,V15,u,u,u,u,u,u,u,u,u,u,u,u,u,u,u,u,u,u,u,u,u,u,u,u,u,u,u,u,ρ e,ρ e,.pointer (some ⟨e,1,none⟩),u,u,u,u,u,u,u,u,u,u,u,u,u,u,u,u,u,u,u,u,u,u,u,u,u,u],defers := [] } W := by
    intro W acc p6 v6 h6
    rw [← hR]
    dsimp only [ρ]
    have e0 := (he.below acc zE).cell0
    have e1 := (he.below acc zE).cell1
    refine wpAnyIn_ready (rs := [0,8,15]) (by kernel_rfl) (by simp) (AllReadyIn.cons rfl (fun K hK => ?_) (AllReadyIn.cons rfl (fun K hK => ?_) (AllReadyIn.cons rfl (fun K hK => ?_) (AllReadyIn.nil))))
    · go_simp; exact hK _ _ (U _ _ _ _ (H133 W acc p6 v6 h6))
    · go_simp; exact hK _ _ (U _ _ _ _ (H149 W acc p6 v6 h6))
    · go_simp; exact hK _ _ (U _ _ _ _ (H151 (W.alloc (.cells #[.int .u64 0,.slice none 0 0] 25)) (acc.alloc acc.size _) W.heap.size (Var.new W _ _ _ _ _ rfl) acc.size p6 (v6.alloc _) h6 (Nat.ne_of_gt v6.lt)))
  have H154 : ∀ (W : World) (acc : Bx W3 W),R 17 #[Ox,Ox,Ox,Ox,Ox,Ix,Ix,Ix,Ox,Ox,Ox,Ox,Ox,Ox,Ox,Ox,Ox,Ox,Ox,Ox] { tmps := #[ρ e,u,ρ s,ρ lb,V15,u,u,u,V8,ρ e,V10,V11,V12,V8,V14,V15,V15,u,u,u,u,u,u,u,u,u,u,u,u,u,u,u,u,u,u,u,u,u,u,u,u,u,u,u,u,ρ e,ρ e,.pointer (some ⟨e,1,none⟩),u,u,u,u,u,u,u,u,u,u,u,u,u,u,u,u,u,u,u,u,u,u,u,u,u,u],defers := [] } W := by
    intro W acc
    rw [← hR]
    dsimp only [ρ]
    have e0 := (he.below acc zE).cell0
    have e1 := (he.below acc zE).cell1
    refine wpAnyIn_ready (rs := [0,8,15,16]) (by kernel_rfl) (by simp) (AllReadyIn.cons rfl (fun K hK => ?_) (AllReadyIn.cons rfl (fun K hK => ?_) (AllReadyIn.cons rfl (fun K hK => ?_) (AllReadyIn.cons rfl (fun K hK => ?_) (AllReadyIn.nil)))))
    · go_simp; exact hK _ _ (U _ _ _ _ (H134 W acc))
    · go_simp; exact hK _ _ (U _ _ _ _ (H150 W acc))
    · go_simp; exact hK _ _ (U _ _ _ _ (H152 (W.alloc (.cells #[.int .u64 0,.slice none 0 0] 25)) (acc.alloc acc.size _) W.heap.size (Var.new W _ _ _ _ _ rfl) acc.size))
    · go_simp; exact hK _ _ (U _ _ _ _ (H153 (W.alloc (.cells #[.int .u64 0,.slice none 0 0] 25)) (acc.alloc acc.size _) W.heap.size (Var.new W _ _ _ _ _ rfl) acc.size))
  have H155 : ∀ (W : World) (acc : Bx W3 W) (p5 : Nat) (v5 : Vx W p5 0) (h5 : W3.heap.size ≤ p5) (p6 : Nat) (v6 : Vx W p6 0) (h6 : W3.heap.size ≤ p6) (n56 : p5 ≠ p6),R 16 #[Ox,Ox,Ox,Ox,Ox,Ix,Ix,Ox,Ox,Ox,Ox,Ox,Ox,Ox,Ox,Ix,Ix,Ox,Ox,Ox] { tmps := #[ρ e,u,ρ s,ρ lb,V15,ρ p5,ρ p6,u,V8,ρ e,V10,V11,V12,V8,V14,V15,V15,u,u,u,u,u,u,u,u,u,u,u,u,u,u,u,u,u,u,u,u,u,u,u,u,u,u,u,u,ρ e,ρ e,u,u,u,u,u,u,u,u,u,u,u,u,u,u,u,u,u,u,u,u,u,u,u,u,u,u,u],defers := [] } W := by
    intro W acc p5 v5 h5 p6 v6 h6 n56
    rw [← hR]
    dsimp only [ρ]
    have e0 := (he.below acc zE).cell0
    have e1 := (he.below acc zE).cell1
    refine wpAnyIn_ready (rs := [0,7]) (by kernel_rfl) (by simp) (AllReadyIn.cons rfl (fun K hK => ?_) (AllReadyIn.cons rfl (fun K hK => ?_) (AllReadyIn.nil)))
    · go_simp; exact hK _ _ (U _ _ _ _ (H135 W acc p5 v5 h5 p6 v6 h6 n56))
    · go_simp; exact hK _ _ (U _ _ _ _ (H151 W acc p5 v5 h5 p6 v6 h6 n56))
  have H156 : ∀ (W : World) (acc : Bx W3 W) (p5 : Nat) (v5 : Vx W p5 0) (h5 : W3.heap.size ≤ p5),R 17 #[Ox,Ox,Ox,Ox,Ox,Ix,Ix,Ox,Ox,Ox,Ox,Ox,Ox,Ox,Ox,Ix,Ox,Ox,Ox,Ox] { tmps := #[ρ e,u,ρ s,ρ lb,V15,ρ p5,u,u,V8,ρ e,V10,V11,V12,V8,V14,V15,V15,u,u,u,u,u,u,u,u,u,u,u,u,u,u,u,u,u,u,u,u,u,u,u,u,u,u,u,u,ρ e,ρ e,u,u,u,u,u,u,u,u,u,u,u,u,u,u,u,u,u,u,u,u,u,u,u,u,u,u,u],defers := [] } W := by
    intro W acc p5 v5 h5
    rw [← hR]
    dsimp only [ρ]
    have e0 := (he.below acc zE).cell0
    have e1 := (he.below acc zE).cell1
    refine wpAnyIn_ready (rs := [0,7,16]) (by kernel_rfl) (by simp) (AllReadyIn.cons rfl (fun K hK => ?_) (AllReadyIn.cons rfl (fun K hK => ?_) (AllReadyIn.cons rfl (fun K hK => ?_) (AllReadyIn.nil))))
    · go_simp; exact hK _ _ (U _ _ _ _ (H136 W acc p5 v5 h5))
    · go_simp; exact hK _ _ (U _ _ _ _ (H152 W acc p5 v5 h5))
    · go_simp; exact hK _ _ (U _ _ _ _ (H155 (W.alloc (.cells #[.int .u64 0,.slice none 0 0] 25)) (acc.alloc acc.size _) p5 (v5.alloc _) h5 W.heap.size (Var.new W _ _ _ _ _ rfl) acc.size (Nat.ne_of_lt v5.lt)))
  have H157 : ∀ (W : World) (acc : Bx W3 W) (p6 : Nat) (v6 : Vx W p6 0) (h6 : W3.heap.size ≤ p6),R 17 #[Ox,Ox,Ox,Ox,Ox,Ix,Ix,Ox,Ox,Ox,Ox,Ox,Ox,Ox,Ox,Ox,Ix,Ox,Ox,Ox] { tmps := #[ρ e,u,ρ s,ρ lb,V15,u,ρ p6,u,V8,ρ e,V10,V11,V12,V8,V14,V15,V15,u,u,u,u,u,u,u,u,u,u,u,u,u,u,u,u,u,u,u,u,u,u,u,u,u,u,u,u,ρ e,ρ e,u,u,u,u,u,u,u,u,u,u,u,u,u,u,u,u,u,u,u,u,u,u,u,u,u,u,u],defers := [] } W := by
    intro W acc p6 v6 h6
    rw [← hR]
    dsimp only [ρ]
    have e0 := (he.below acc zE).cell0
    have e1 := (he.below acc zE).cell1
    refine wpAnyIn_ready (rs := [0,7,15]) (by kernel_rfl) (by simp) (AllReadyIn.cons rfl (fun K hK => ?_) (AllReadyIn.cons rfl (fun K hK => ?_) (AllReadyIn.cons rfl (fun K hK => ?_) (AllReadyIn.nil))))
    · go_simp; exact hK _ _ (U _ _ _ _ (H137 W acc p6 v6 h6))
    · go_simp; exact hK _ _ (U _ _ _ _ (H153 W acc p6 v6 h6))
    · go_simp; exact hK _ _ (U _ _ _ _ (H155 (W.alloc (.cells #[.int .u64 0,.slice none 0 0] 25)) (acc.alloc acc.size _) W.heap.size (Var.new W _ _ _ _ _ rfl) acc.size p6 (v6.alloc _) h6 (Nat.ne_of_gt v6.lt)))
  have H158 : ∀ (W : World) (acc : Bx W3 W),R 18 #[Ox,Ox,Ox,Ox,Ox,Ix,Ix,Ox,Ox,Ox,Ox,Ox,Ox,Ox,Ox,Ox,Ox,Ox,Ox,Ox] { tmps := #[ρ e,u,ρ s,ρ lb,V15,u,u,u,V8,ρ e,V10,V11,V12,V8,V14,V15,V15,u,u,u,u,u,u,u,u,u,u,u,u,u,u,u,u,u,u,u,u,u,u,u,u,u,u,u,u,ρ e,ρ e,u,u,u,u,u,u,u,u,u,u,u,u,u,u,u,u,u,u,u,u,u,u,u,u,u,u,u],defers := [] } W := by
    intro W acc
    rw [← hR]
    dsimp only [ρ]
    have e0 := (he.below acc zE).cell0
    have e1 := (he.below acc zE).cell1
    refine wpAnyIn_ready (rs := [0,7,15,16]) (by kernel_rfl) (by simp) (AllReadyIn.cons rfl (fun K hK => ?_) (AllReadyIn.cons rfl (fun K hK => ?_) (AllReadyIn.cons rfl (fun K hK => ?_) (AllReadyIn.cons rfl (fun K hK => ?_) (AllReadyIn.nil)))))
    · go_simp; exact hK _ _ (U _ _ _ _ (H138 W acc))
    · go_simp; exact hK _ _ (U _ _ _ _ (H154 W acc))
    · go_simp; exact hK _ _ (U _ _ _ _ (H156 (W.alloc (.cells #[.int .u64 0,.slice none 0 0] 25)) (acc.alloc acc.size _) W.heap.size (Var.new W _ _ _ _ _ rfl) acc.size))
    · go_simp; exact hK _ _ (U _ _ _ _ (H157 (W.alloc (.cells #[.int .u64 0,.slice none 0 0] 25)) (acc.alloc acc.size _) W.heap.size (Var.new W _ _ _ _ _ rfl) acc.size))
  have H159 : ∀ (W : World) (acc : Bx W3 W) (p5 : Nat) (v5 : Vx W p5 0) (h5 : W3.heap.size ≤ p5) (p6 : Nat) (v6 : Vx W p6 0) (h6 : W3.heap.size ≤ p6) (n56 : p5 ≠ p6),R 17 #[Ox,Ox,Ox,Ox,Ox,Ix,Ox,Ox,Ox,Ox,Ox,Ox,Ox,Ox,Ox,Ix,Ix,Ox,Ox,Ox] { tmps := #[ρ e,u,ρ s,ρ lb,V15,ρ p5,ρ p6,u,V8,ρ e,V10,V11,V12,V8,V14,V15,V15,u,u,u,u,u,u,u,u,u,u,u,u,u,u,u,u,u,u,u,u,u,u,u,u,u,u,u,u,ρ e,u,u,u,u,u,u,u,u,u,u,u,u,u,u,u,u,u,u,u,u,u,u,u,u,u,u,u,u],defers := [] } W := by
    intro W acc p5 v5 h5 p6 v6 h6 n56
    rw [← hR]
    dsimp only [ρ]
    have e0 := (he.below acc zE).cell0
    have e1 := (he.below acc zE).cell1
    refine wpAnyIn_ready (rs := [0,6]) (by kernel_rfl) (by simp) (AllReadyIn.cons rfl (fun K hK => ?_) (AllReadyIn.cons rfl (fun K hK => ?_) (AllReadyIn.nil)))
    · go_simp; exact hK _ _ (U _ _ _ _ (H139 W acc p5 v5 h5 p6 v6 h6 n56))
    · go_simp; exact hK _ _ (U _ _ _ _ (H155 W acc p5 v5 h5 p6 v6 h6 n56))
  have H160 : ∀ (W : World) (acc : Bx W3 W) (p5 : Nat) (v5 : Vx W p5 0) (h5 : W3.heap.size ≤ p5),R 18 #[Ox,Ox,Ox,Ox,Ox,Ix,Ox,Ox,Ox,Ox,Ox,Ox,Ox,Ox,Ox,Ix,Ox,Ox,Ox,Ox] { tmps := #[ρ e,u,ρ s,ρ lb,V15,ρ p5,u,u,V8,ρ e,V10,V11,V12,V8,V14,V15,V15,u,u,u,u,u,u,u,u,u,u,u,u,u,u,u,u,u,u,u,u,u,u,u,u,u,u,u,u,ρ e,u,u,u,u,u,u,u,u,u,u,u,u,u,u,u,u,u,u,u,u,u,u,u,u,u,u,u,u],defers := [] } W := by
    intro W acc p5 v5 h5
    rw [← hR]
    dsimp only [ρ]
    have e0 := (he.below acc zE).cell0
    have e1 := (he.below acc zE).cell1
    refine wpAnyIn_ready (rs := [0,6,16]) (by kernel_rfl) (by simp) (AllReadyIn.cons rfl (fun K hK => ?_) (AllReadyIn.cons rfl (fun K hK => ?_) (AllReadyIn.cons rfl (fun K hK => ?_) (AllReadyIn.nil))))
    · go_simp; exact hK _ _ (U _ _ _ _ (H140 W acc p5 v5 h5))
    · go_simp; exact hK _ _ (U _ _ _ _ (H156 W acc p5 v5 h5))
    · go_simp; exact hK _ _ (U _ _ _ _ (H159 (W.alloc (.cells #[.int .u64 0,.slice none 0 0] 25)) (acc.alloc acc.size _) p5 (v5.alloc _) h5 W.heap.size (Var.new W _ _ _ _ _ rfl) acc.size (Nat.ne_of_lt v5.lt)))
  have H161 : ∀ (W : World) (acc : Bx W3 W) (p6 : Nat) (v6 : Vx W p6 0) (h6 : W3.heap.size ≤ p6),R 18 #[Ox,Ox,Ox,Ox,Ox,Ix,Ox,Ox,Ox,Ox,Ox,Ox,Ox,Ox,Ox,Ox,Ix,Ox,Ox,Ox] { tmps := #[ρ e,u,ρ s,ρ lb,V15,u,ρ p6,u,V8,ρ e,V10,V11,V12,V8,V14,V15,V15,u,u,u,u,u,u,u,u,u,u,u,u,u,u,u,u,u,u,u,u,u,u,u,u,u,u,u,u,ρ e,u,u,u,u,u,u,u,u,u,u,u,u,u,u,u,u,u,u,u,u,u,u,u,u,u,u,u,u],defers := [] } W := by
    intro W acc p6 v6 h6
    rw [← hR]
    dsimp only [ρ]
    have e0 := (he.below acc zE).cell0
    have e1 := (he.below acc zE).cell1
    refine wpAnyIn_ready (rs := [0,6,15]) (by kernel_rfl) (by simp) (AllReadyIn.cons rfl (fun K hK => ?_) (AllReadyIn.cons rfl (fun K hK => ?_) (AllReadyIn.cons rfl (fun K hK => ?_) (AllReadyIn.nil))))
    · go_simp; exact hK _ _ (U _ _ _ _ (H141 W acc p6 v6 h6))
    · go_simp; exact hK _ _ (U _ _ _ _ (H157 W acc p6 v6 h6))
    · go_simp; exact hK _ _ (U _ _ _ _ (H159 (W.alloc (.cells #[.int .u64 0,.slice none 0 0] 25)) (acc.alloc acc.size _) W.heap.size (Var.new W _ _ _ _ _ rfl) acc.size p6 (v6.alloc _) h6 (Nat.ne_of_gt v6.lt)))
  have H162 : ∀ (W : World) (acc : Bx W3 W),R 19 #[Ox,Ox,Ox,Ox,Ox,Ix,Ox,Ox,Ox,Ox,Ox,Ox,Ox,Ox,Ox,Ox,Ox,Ox,Ox,Ox] { tmps := #[ρ e,u,ρ s,ρ lb,V15,u,u,u,V8,ρ e,V10,V11,V12,V8,V14,V15,V15,u,u,u,u,u,u,u,u,u,u,u,u,u,u,u,u,u,u,u,u,u,u,u,u,u,u,u,u,ρ e,u,u,u,u,u,u,u,u,u,u,u,u,u,u,u,u,u,u,u,u,u,u,u,u,u,u,u,u],defers := [] } W := by
    intro W acc
    rw [← hR]
    dsimp only [ρ]
    have e0 := (he.below acc zE).cell0
    have e1 := (he.below acc zE).cell1
    refine wpAnyIn_ready (rs := [0,6,15,16]) (by kernel_rfl) (by simp) (AllReadyIn.cons rfl (fun K hK => ?_) (AllReadyIn.cons rfl (fun K hK => ?_) (AllReadyIn.cons rfl (fun K hK => ?_) (AllReadyIn.cons rfl (fun K hK => ?_) (AllReadyIn.nil)))))
    · go_simp; exact hK _ _ (U _ _ _ _ (H142 W acc))
    · go_simp; exact hK _ _ (U _ _ _ _ (H158 W acc))
    · go_simp; exact hK _ _ (U _ _ _ _ (H160 (W.alloc (.cells #[.int .u64 0,.slice none 0 0] 25)) (acc.alloc acc.size _) W.heap.size (Var.new W _ _ _ _ _ rfl) acc.size))
    · go_simp; exact hK _ _ (U _ _ _ _ (H161 (W.alloc (.cells #[.int .u64 0,.slice none 0 0] 25)) (acc.alloc acc.size _) W.heap.size (Var.new W _ _ _ _ _ rfl) acc.size))
  have H163 : ∀ (W : World) (acc : Bx W3 W) (p5 : Nat) (v5 : Vx W p5 0) (h5 : W3.heap.size ≤ p5) (p6 : Nat) (v6 : Vx W p6 0) (h6 : W3.heap.size ≤ p6) (n56 : p5 ≠ p6),R 18 #[Ox,Ox,Ox,Ox,Ox,Ox,Ox,Ox,Ox,Ox,Ox,Ox,Ox,Ox,Ox,Ix,Ix,Ox,Ox,Ox] { tmps := #[ρ e,u,ρ s,ρ lb,V15,ρ p5,ρ p6,u,V8,ρ e,V10,V11,V12,V8,V14,V15,V15,u,u,u,u,u,u,u,u,u,u,u,u,u,u,u,u,u,u,u,u,u,u,u,u,u,u,u,u,u,u,u,u,u,u,u,u,u,u,u,u,u,u,u,u,u,u,u,u,u,u,u,u,u,u,u,u,u],defers := [] } W := by
    intro W acc p5 v5 h5 p6 v6 h6 n56
    rw [← hR]
    dsimp only [ρ]
    have e0 := (he.below acc zE).cell0
    have e1 := (he.below acc zE).cell1
    refine wpAnyIn_ready (rs := [0,5]) (by kernel_rfl) (by simp) (AllReadyIn.cons rfl (fun K hK => ?_) (AllReadyIn.cons rfl (fun K hK => ?_) (AllReadyIn.nil)))
    · go_simp; exact hK _ _ (U _ _ _ _ (H143 W acc p5 v5 h5 p6 v6 h6 n56))
    · go_simp; exact hK _ _ (U _ _ _ _ (H159 W acc p5 v5 h5 p6 v6 h6 n56))
  have H164 : ∀ (W : World) (acc : Bx W3 W) (p5 : Nat) (v5 : Vx W p5 0) (h5 : W3.heap.size ≤ p5),R 19 #[Ox,Ox,Ox,Ox,Ox,Ox,Ox,Ox,Ox,Ox,Ox,Ox,Ox,Ox,Ox,Ix,Ox,Ox,Ox,Ox] { tmps := #[ρ e,u,ρ s,ρ lb,V15,ρ p5,u,u,V8,ρ e,V10,V11,V12,V8,V14,V15,V15,u,u,u,u,u,u,u,u,u,u,u,u,u,u,u,u,u,u,u,u,u,u,u,u,u,u,u,u,u,u,u,u,u,u,u,u,u,u,u,u,u,u,u,u,u,u,u,u,u,u,u,u,u,u,u,u,u],defers := [] } W := by
    intro W acc p5 v5 h5
    rw [← hR]
    dsimp only [ρ]
    have e0 := (he.below acc zE).cell0
    have e1 := (he.below acc zE).cell1
    refine wpAnyIn_ready (rs := [0,5,16]) (by kernel_rfl) (by simp) (AllReadyIn.cons rfl (fun K hK => ?_) (AllReadyIn.cons rfl (fun K hK => ?_) (AllReadyIn.cons rfl (fun K hK => ?_) (AllReadyIn.nil))))
    · go_simp; exact hK _ _ (U _ _ _ _ (H144 W acc p5 v5 h5))
    · go_simp; exact hK _ _ (U _ _ _ _ (H160 W acc p5 v5 h5))
    · go_simp; exact hK _ _ (U _ _ _ _ (H163 (W.alloc (.cells #[.int .u64 0,.slice none 0 0] 25)) (acc.alloc acc.size _) p5 (v5.alloc _) h5 W.heap.size (Var.new W _ _ _ _ _ rfl) acc.size (Nat.ne_of_lt v5.lt)))
  have H165 : ∀ (W : World) (acc : Bx W3 W) (p6 : Nat) (v6 : Vx W p6 0) (h6 : W3.heap.size ≤ p6),R 19 #[Ox,Ox,Ox,Ox,Ox,Ox,Ox,Ox,Ox,Ox,Ox,Ox,Ox,Ox,Ox,Ox,Ix,Ox,Ox,Ox] { tmps := #[ρ e,u,ρ s,ρ lb,V15,u,ρ p6,u,V8,ρ e,V10,V11,V12,V8,V14,V15,V15,u,u,u,u,u,u,u,u,u,u,u,u,u,u,u,u,u,u,u,u,u,u,u,u,u,u,u,u,u,u,u,u,u,u,u,u,u,u,u,u,u,u,u,u,u,u,u,u,u,u,u,u,u,u,u,u,u],defers := [] } W := by
    intro W acc p6 v6 h6
    rw [← hR]
    dsimp only [ρ]
    have e0 := (he.below acc zE).cell0
    have e1 := (he.below acc zE).cell1
    refine wpAnyIn_ready (rs := [0,5,15]) (by kernel_rfl) (by simp) (AllReadyIn.cons rfl (fun K hK => ?_) (AllReadyIn.cons rfl (fun K hK => ?_) (AllReadyIn.cons rfl (fun K hK => ?_) (AllReadyIn.nil))))
    · go_simp; exact hK _ _ (U _ _ _ _ (H145 W acc p6 v6 h6))
    · go_simp; exact hK _ _ (U _ _ _ _ (H161 W acc p6 v6 h6))
    · go_simp; exact hK _ _ (U _ _ _ _ (H163 (W.alloc (.cells #[.int .u64 0,.slice none 0 0] 25)) (acc.alloc acc.size _) W.heap.size (Var.new W _ _ _ _ _ rfl) acc.size p6 (v6.alloc _) h6 (Nat.ne_of_gt v6.lt)))
  have H166 : ∀ (W : World) (acc : Bx W3 W),R 20 #[Ox,Ox,Ox,Ox,Ox,Ox,Ox,Ox,Ox,Ox,Ox,Ox,Ox,Ox,Ox,Ox,Ox,Ox,Ox,Ox] { tmps := #[ρ e,u,ρ s,ρ lb,V15,u,u,u,V8,ρ e,V10,V11,V12,V8,V14,V15,V15,u,u,u,u,u,u,u,u,u,u,u,u,u,u,u,u,u,u,u,u,u,u,u,u,u,u,u,u,u,u,u,u,u,u,u,u,u,u,u,u,u,u,u,u,u,u,u,u,u,u,u,u,u,u,u,u,u],defers := [] } W := by
    intro W acc
    rw [← hR]
    dsimp only [ρ]
    have e0 := (he.below acc zE).cell0
    have e1 := (he.below acc zE).cell1
    refine wpAnyIn_ready (rs := [0,5,15,16]) (by kernel_rfl) (by simp) (AllReadyIn.cons rfl (fun K hK => ?_) (AllReadyIn.cons rfl (fun K hK => ?_) (AllReadyIn.cons rfl (fun K hK => ?_) (AllReadyIn.cons rfl (fun K hK => ?_) (AllReadyIn.nil)))))
    · go_simp; exact hK _ _ (U _ _ _ _ (H146 W acc))
    · go_simp; exact hK _ _ (U _ _ _ _ (H162 W acc))
    · go_simp; exact hK _ _ (U _ _ _ _ (H164 (W.alloc (.cells #[.int .u64 0,.slice none 0 0] 25)) (acc.alloc acc.size _) W.heap.size (Var.new W _ _ _ _ _ rfl) acc.size))
    · go_simp; exact hK _ _ (U _ _ _ _ (H165 (W.alloc (.cells #[.int .u64 0,.slice none 0 0] 25)) (acc.alloc acc.size _) W.heap.size (Var.new W _ _ _ _ _ rfl) acc.size))
  exact H166 W3.drew (Below.refl _ W3).drew
end Go.Proofs.YtlkblgpekbeljaaGreatDoor
