/- whole: the last line of a step of Euclid's,where nothing is left. (gen_step6.py) -/
import Derived.Test.YtlkblgpekbeljaaGreatDoorWhoQ
import Derived.Test.YtlkblgpekbeljaaGreatDoorWhoU
namespace Go.Proofs.YtlkblgpekbeljaaGreatDoor
open Go.RowKit
set_option linter.unusedVariables false

theorem Var.only {w w' : World} {c : Nat} {x y : Value} {p : Nat → Prop} (h : Var w c x y) (ho : Only w w' p) (hp : ¬ p c) : Var w' c x y := ⟨(ho.2.2.2.2 c h.lt hp).trans h.1,h.2⟩
def Ix : Bool := true
def Ox : Bool := false
def ρ (x : Nat) : Value := Value.pointer (some (Addr.mk x 0 none))
def ς (a l c : Nat) : Value := Value.slice (some (Addr.mk a 0 none)) l c
def Bx (a b : World) : Prop := Below a.heap.size a b
def Vx (W : World) (p : Nat) (x : Int) : Prop := Var W p (.int .u64 x) (.slice none 0 0)
def Oe (a b : World) (e : Nat) : Prop := Only a b (fun k => k = e)
def ν (x : Int) : Value := Value.agg #[Value.int IntKind.u64 x,Value.slice none 0 0]
set_option maxRecDepth 100000 in
set_option maxHeartbeats 8000000 in
theorem region6_42 (e p6 gb cb : Nat) (A0 v1 v2 v3 v4 v5 v7 v8 v9 v10 v11 v12 v13 v14 v15 v16 v17 v18 v19 v20 v21 v22 v23 v24 v25 v26 v27 v28 v29 v30 v31 v32 v33 v34 v35 v36 v37 v38 v39 v40 v41 v42 v43 v44 v45 v46 v47 v48 v49 v50 v51 v52 v53 v54 v55 v56 v57 v58 v59 v60 v61 v62 v63 v64 v65 v66 v67 v68 v69 v70 v71 v72 v73 : Value) (Q : Exit → Act → World → Prop) (W0 : World) (he : EBox W0 e A0 (.slice (some ⟨gb,0,none⟩) 1 cb)) (hv : Var W0 p6 (.int .u64 0) (.slice none 0 0))
    (hQ : ∀ W g,Only W0 W (fun k => k = e) → EBox W e (.slice (some ⟨gb,0,none⟩) 1 cb) (.slice (some ⟨g,0,none⟩) 0 0) → Q .normal { tmps := #[.pointer (some ⟨e,0,none⟩),v1,v2,v3,v4,v5,.pointer (some ⟨p6,0,none⟩),v7,v8,v9,v10,v11,v12,v13,v14,v15,v16,v17,v18,v19,v20,v21,v22,v23,v24,v25,v26,v27,v28,v29,v30,v31,v32,v33,v34,v35,v36,v37,v38,v39,v40,v41,v42,v43,v44,v45,v46,v47,v48,v49,v50,v51,v52,v53,.pointer (some ⟨e,0,none⟩),.pointer (some ⟨e,0,none⟩),.pointer (some ⟨e,0,none⟩),.pointer (some ⟨e,0,none⟩),.pointer (some ⟨e,1,none⟩),.slice (some ⟨gb,0,none⟩) 1 cb,.agg #[.int .u64 0,.slice none 0 0],.slice (some ⟨g,0,none⟩) 0 0,.pointer (some ⟨e,0,none⟩),.pointer (some ⟨e,0,none⟩),.pointer (some ⟨e,0,none⟩),.pointer (some ⟨e,1,none⟩),v66,v67,v68,v69,v70,v71,v72,v73],defers := [] } W) :
    (Code.region 6 #[{ dst := some 54,op := Op.move (Operand.tmp 0),type := 121,pos := "euclid.go:31",after := #[],guard := none },{ dst := some 55,op := Op.move (Operand.tmp 0),type := 121,pos := "euclid.go:31",after := #[{ on := 10,ground := Ground.gcOnly Departure.lateStores }],guard := none },{ dst := some 56,op := Op.move (Operand.tmp 0),type := 121,pos := "euclid.go:31",after := #[],guard := none },{ dst := some 57,op := Op.nilCheck (Operand.tmp 56),type := 0,pos := "euclid.go:31",after := #[{ on := 2,ground := Ground.data }],guard := none },{ dst := some 58,op := Op.fieldAddr 82 (Operand.tmp 57) 1,type := 0,pos := "euclid.go:31",after := #[{ on := 3,ground := Ground.data }],guard := none },{ dst := some 59,op := Op.load 23 (Operand.tmp 58),type := 23,pos := "euclid.go:31",after := #[{ on := 4,ground := Ground.data }],guard := none },{ dst := some 60,op := Op.load 25 (Operand.tmp 6),type := 25,pos := "euclid.go:31",after := #[],guard := none },{ dst := some 61,op := Op.call { callee := Callee.value (Operand.func 46),args := #[Operand.tmp 60],argTypes := #[25] },type := 23,pos := "euclid.go:31",after := #[{ on := 6,ground := Ground.data }],guard := none },{ dst := some 62,op := Op.nilCheck (Operand.tmp 54),type := 0,pos := "euclid.go:31",after := #[{ on := 0,ground := Ground.data },{ on := 0,ground := Ground.phase },{ on := 1,ground := Ground.textOnly Departure.lateStores },{ on := 2,ground := Ground.phase },{ on := 3,ground := Ground.phase },{ on := 4,ground := Ground.phase },{ on := 5,ground := Ground.phase },{ on := 6,ground := Ground.textOnly Departure.lateStores },{ on := 7,ground := Ground.phase }],guard := none },{ dst := some 63,op := Op.fieldAddr 82 (Operand.tmp 62) 0,type := 0,pos := "euclid.go:31",after := #[{ on := 8,ground := Ground.data },{ on := 0,ground := Ground.phase },{ on := 1,ground := Ground.textOnly Departure.lateStores },{ on := 2,ground := Ground.phase },{ on := 3,ground := Ground.phase },{ on := 4,ground := Ground.phase },{ on := 5,ground := Ground.phase },{ on := 6,ground := Ground.textOnly Departure.lateStores },{ on := 7,ground := Ground.phase }],guard := none },{ dst := none,op := Op.store 23 (Operand.tmp 63) (Operand.tmp 59),type := 0,pos := "euclid.go:31",after := #[{ on := 9,ground := Ground.data },{ on := 5,ground := Ground.data },{ on := 7,ground := Ground.chain },{ on := 0,ground := Ground.phase },{ on := 1,ground := Ground.textOnly Departure.lateStores },{ on := 2,ground := Ground.phase },{ on := 3,ground := Ground.phase },{ on := 4,ground := Ground.phase },{ on := 5,ground := Ground.phase },{ on := 6,ground := Ground.textOnly Departure.lateStores },{ on := 7,ground := Ground.phase }],guard := none },{ dst := some 64,op := Op.nilCheck (Operand.tmp 55),type := 0,pos := "euclid.go:31",after := #[{ on := 1,ground := Ground.data },{ on := 0,ground := Ground.phase },{ on := 1,ground := Ground.phase },{ on := 2,ground := Ground.phase },{ on := 3,ground := Ground.phase },{ on := 4,ground := Ground.phase },{ on := 5,ground := Ground.phase },{ on := 6,ground := Ground.phase },{ on := 7,ground := Ground.phase },{ on := 8,ground := Ground.phase },{ on := 9,ground := Ground.phase },{ on := 10,ground := Ground.phase }],guard := none },{ dst := some 65,op := Op.fieldAddr 82 (Operand.tmp 64) 1,type := 0,pos := "euclid.go:31",after := #[{ on := 11,ground := Ground.data },{ on := 0,ground := Ground.phase },{ on := 1,ground := Ground.phase },{ on := 2,ground := Ground.phase },{ on := 3,ground := Ground.phase },{ on := 4,ground := Ground.phase },{ on := 5,ground := Ground.phase },{ on := 6,ground := Ground.phase },{ on := 7,ground := Ground.phase },{ on := 8,ground := Ground.phase },{ on := 9,ground := Ground.phase },{ on := 10,ground := Ground.phase }],guard := none },{ dst := none,op := Op.store 23 (Operand.tmp 65) (Operand.tmp 61),type := 0,pos := "euclid.go:31",after := #[{ on := 12,ground := Ground.data },{ on := 7,ground := Ground.data },{ on := 10,ground := Ground.chain },{ on := 0,ground := Ground.phase },{ on := 1,ground := Ground.phase },{ on := 2,ground := Ground.phase },{ on := 3,ground := Ground.phase },{ on := 4,ground := Ground.phase },{ on := 5,ground := Ground.phase },{ on := 6,ground := Ground.phase },{ on := 7,ground := Ground.phase },{ on := 8,ground := Ground.phase },{ on := 9,ground := Ground.phase },{ on := 10,ground := Ground.phase }],guard := none }] true).wp Tryz.prog Q { tmps := #[.pointer (some ⟨e,0,none⟩),v1,v2,v3,v4,v5,.pointer (some ⟨p6,0,none⟩),v7,v8,v9,v10,v11,v12,v13,v14,v15,v16,v17,v18,v19,v20,v21,v22,v23,v24,v25,v26,v27,v28,v29,v30,v31,v32,v33,v34,v35,v36,v37,v38,v39,v40,v41,v42,v43,v44,v45,v46,v47,v48,v49,v50,v51,v52,v53,v54,v55,v56,v57,v58,v59,v60,v61,v62,v63,v64,v65,v66,v67,v68,v69,v70,v71,v72,v73],defers := [] } W0 := by
  refine wpIn_wide (n := 5) |>.1 ?_
  refine region_ways (by kernel_rfl) fun R hR => ?_
  have U := fun (n : Nat) (l : Array Bool) (a : Act) (w : World) (h : R n l a w) => cast (congrFun (congrFun (congrFun (congrFun hR.symm n) l) a) w) h
  have H0 : ∀ (W : World) (on : Oe W0 W e) (g : Nat) (eb : EBox W e (.slice (some ⟨gb,0,none⟩) 1 cb) (.slice (some ⟨g,0,none⟩) 0 0)) ,R 0 #[Ix,Ix,Ix,Ix,Ix,Ix,Ix,Ix,Ix,Ix,Ix,Ix,Ix,Ix] { tmps := #[ρ e,v1,v2,v3,v4,v5,ρ p6,v7,v8,v9,v10,v11,v12,v13,v14,v15,v16,v17,v18,v19,v20,v21,v22,v23,v24,v25,v26,v27,v28,v29,v30,v31,v32,v33,v34,v35,v36,v37,v38,v39,v40,v41,v42,v43,v44,v45,v46,v47,v48,v49,v50,v51,v52,v53,ρ e,ρ e,ρ e,ρ e,.pointer (some ⟨e,1,none⟩),ς gb 1 cb,ν 0,ς g 0 0,ρ e,ρ e,ρ e,.pointer (some ⟨e,1,none⟩),v66,v67,v68,v69,v70,v71,v72,v73],defers := [] } W := by
    intro W on g eb
    rw [← hR]
    dsimp only [ρ,ς,ν]
    refine wpAnyIn_done (by kernel_rfl) ?_ _
    exact hQ W g on eb
  have H1 : ∀ (W : World) (on : Oe W0 W e) (g : Nat) (eb : EBox W e (.slice (some ⟨gb,0,none⟩) 1 cb) (.slice (some ⟨gb,0,none⟩) 1 cb)) ,R 1 #[Ix,Ix,Ix,Ix,Ix,Ix,Ix,Ix,Ix,Ix,Ix,Ix,Ix,Ox] { tmps := #[ρ e,v1,v2,v3,v4,v5,ρ p6,v7,v8,v9,v10,v11,v12,v13,v14,v15,v16,v17,v18,v19,v20,v21,v22,v23,v24,v25,v26,v27,v28,v29,v30,v31,v32,v33,v34,v35,v36,v37,v38,v39,v40,v41,v42,v43,v44,v45,v46,v47,v48,v49,v50,v51,v52,v53,ρ e,ρ e,ρ e,ρ e,.pointer (some ⟨e,1,none⟩),ς gb 1 cb,ν 0,ς g 0 0,ρ e,ρ e,ρ e,.pointer (some ⟨e,1,none⟩),v66,v67,v68,v69,v70,v71,v72,v73],defers := [] } W := by
    intro W on g eb
    rw [← hR]
    dsimp only [ρ,ς,ν]
    have e0 := eb.cell0
    have e1 := eb.cell1
    have f0 := eb.free 0
    have f1 := eb.free 1
    refine wpAnyIn_ready (rs := [13]) (by kernel_rfl) (by simp) (AllReadyIn.cons rfl (fun K hK => ?_) (AllReadyIn.nil))
    · go_simp; exact hK _ _ (U _ _ _ _ (H0 (W.setCell ⟨e,1,none⟩ (.slice (some ⟨g,0,none⟩) 0 0)) (on.set rfl _ _) g (eb.set1 _)))
  have H2 : ∀ (W : World) (on : Oe W0 W e) (g : Nat) (eb : EBox W e (.slice (some ⟨gb,0,none⟩) 1 cb) (.slice (some ⟨gb,0,none⟩) 1 cb)) ,R 2 #[Ix,Ix,Ix,Ix,Ix,Ix,Ix,Ix,Ix,Ix,Ix,Ix,Ox,Ox] { tmps := #[ρ e,v1,v2,v3,v4,v5,ρ p6,v7,v8,v9,v10,v11,v12,v13,v14,v15,v16,v17,v18,v19,v20,v21,v22,v23,v24,v25,v26,v27,v28,v29,v30,v31,v32,v33,v34,v35,v36,v37,v38,v39,v40,v41,v42,v43,v44,v45,v46,v47,v48,v49,v50,v51,v52,v53,ρ e,ρ e,ρ e,ρ e,.pointer (some ⟨e,1,none⟩),ς gb 1 cb,ν 0,ς g 0 0,ρ e,ρ e,ρ e,v65,v66,v67,v68,v69,v70,v71,v72,v73],defers := [] } W := by
    intro W on g eb
    rw [← hR]
    dsimp only [ρ,ς,ν]
    have e0 := eb.cell0
    have e1 := eb.cell1
    have f0 := eb.free 0
    have f1 := eb.free 1
    refine wpAnyIn_ready (rs := [12]) (by kernel_rfl) (by simp) (AllReadyIn.cons rfl (fun K hK => ?_) (AllReadyIn.nil))
    · go_simp; exact hK _ _ (U _ _ _ _ (H1 W on g eb))
  have H3 : ∀ (W : World) (on : Oe W0 W e) (g : Nat) (eb : EBox W e (.slice (some ⟨gb,0,none⟩) 1 cb) (.slice (some ⟨gb,0,none⟩) 1 cb)) ,R 3 #[Ix,Ix,Ix,Ix,Ix,Ix,Ix,Ix,Ix,Ix,Ix,Ox,Ox,Ox] { tmps := #[ρ e,v1,v2,v3,v4,v5,ρ p6,v7,v8,v9,v10,v11,v12,v13,v14,v15,v16,v17,v18,v19,v20,v21,v22,v23,v24,v25,v26,v27,v28,v29,v30,v31,v32,v33,v34,v35,v36,v37,v38,v39,v40,v41,v42,v43,v44,v45,v46,v47,v48,v49,v50,v51,v52,v53,ρ e,ρ e,ρ e,ρ e,.pointer (some ⟨e,1,none⟩),ς gb 1 cb,ν 0,ς g 0 0,ρ e,ρ e,v64,v65,v66,v67,v68,v69,v70,v71,v72,v73],defers := [] } W := by
    intro W on g eb
    rw [← hR]
    dsimp only [ρ,ς,ν]
    have e0 := eb.cell0
    have e1 := eb.cell1
    have f0 := eb.free 0
    have f1 := eb.free 1
    refine wpAnyIn_ready (rs := [11]) (by kernel_rfl) (by simp) (AllReadyIn.cons rfl (fun K hK => ?_) (AllReadyIn.nil))
    · go_simp; exact hK _ _ (U _ _ _ _ (H2 W on g eb))
  have H4 : ∀ (W : World) (on : Oe W0 W e) (g : Nat) (eb : EBox W e (A0) (.slice (some ⟨gb,0,none⟩) 1 cb)) ,R 4 #[Ix,Ix,Ix,Ix,Ix,Ix,Ix,Ix,Ix,Ix,Ox,Ox,Ox,Ox] { tmps := #[ρ e,v1,v2,v3,v4,v5,ρ p6,v7,v8,v9,v10,v11,v12,v13,v14,v15,v16,v17,v18,v19,v20,v21,v22,v23,v24,v25,v26,v27,v28,v29,v30,v31,v32,v33,v34,v35,v36,v37,v38,v39,v40,v41,v42,v43,v44,v45,v46,v47,v48,v49,v50,v51,v52,v53,ρ e,ρ e,ρ e,ρ e,.pointer (some ⟨e,1,none⟩),ς gb 1 cb,ν 0,ς g 0 0,ρ e,ρ e,v64,v65,v66,v67,v68,v69,v70,v71,v72,v73],defers := [] } W := by
    intro W on g eb
    rw [← hR]
    dsimp only [ρ,ς,ν]
    have e0 := eb.cell0
    have e1 := eb.cell1
    have f0 := eb.free 0
    have f1 := eb.free 1
    refine wpAnyIn_ready (rs := [10]) (by kernel_rfl) (by simp) (AllReadyIn.cons rfl (fun K hK => ?_) (AllReadyIn.nil))
    · go_simp; exact hK _ _ (U _ _ _ _ (H3 (W.setCell ⟨e,0,none⟩ (.slice (some ⟨gb,0,none⟩) 1 cb)) (on.set rfl _ _) g (eb.set0 _)))
  have H5 : ∀ (W : World) (on : Oe W0 W e) (g : Nat) (eb : EBox W e (A0) (.slice (some ⟨gb,0,none⟩) 1 cb)) ,R 5 #[Ix,Ix,Ix,Ix,Ix,Ix,Ix,Ix,Ix,Ox,Ox,Ox,Ox,Ox] { tmps := #[ρ e,v1,v2,v3,v4,v5,ρ p6,v7,v8,v9,v10,v11,v12,v13,v14,v15,v16,v17,v18,v19,v20,v21,v22,v23,v24,v25,v26,v27,v28,v29,v30,v31,v32,v33,v34,v35,v36,v37,v38,v39,v40,v41,v42,v43,v44,v45,v46,v47,v48,v49,v50,v51,v52,v53,ρ e,ρ e,ρ e,ρ e,.pointer (some ⟨e,1,none⟩),ς gb 1 cb,ν 0,ς g 0 0,ρ e,v63,v64,v65,v66,v67,v68,v69,v70,v71,v72,v73],defers := [] } W := by
    intro W on g eb
    rw [← hR]
    dsimp only [ρ,ς,ν]
    have e0 := eb.cell0
    have e1 := eb.cell1
    have f0 := eb.free 0
    have f1 := eb.free 1
    refine wpAnyIn_ready (rs := [9]) (by kernel_rfl) (by simp) (AllReadyIn.cons rfl (fun K hK => ?_) (AllReadyIn.nil))
    · go_simp; exact hK _ _ (U _ _ _ _ (H4 W on g eb))
  have H6 : ∀ (W : World) (on : Oe W0 W e) (g : Nat) (eb : EBox W e (A0) (.slice (some ⟨gb,0,none⟩) 1 cb)) ,R 6 #[Ix,Ix,Ix,Ix,Ix,Ix,Ix,Ix,Ox,Ox,Ox,Ox,Ox,Ox] { tmps := #[ρ e,v1,v2,v3,v4,v5,ρ p6,v7,v8,v9,v10,v11,v12,v13,v14,v15,v16,v17,v18,v19,v20,v21,v22,v23,v24,v25,v26,v27,v28,v29,v30,v31,v32,v33,v34,v35,v36,v37,v38,v39,v40,v41,v42,v43,v44,v45,v46,v47,v48,v49,v50,v51,v52,v53,ρ e,ρ e,ρ e,ρ e,.pointer (some ⟨e,1,none⟩),ς gb 1 cb,ν 0,ς g 0 0,v62,v63,v64,v65,v66,v67,v68,v69,v70,v71,v72,v73],defers := [] } W := by
    intro W on g eb
    rw [← hR]
    dsimp only [ρ,ς,ν]
    have e0 := eb.cell0
    have e1 := eb.cell1
    have f0 := eb.free 0
    have f1 := eb.free 1
    refine wpAnyIn_ready (rs := [8]) (by kernel_rfl) (by simp) (AllReadyIn.cons rfl (fun K hK => ?_) (AllReadyIn.nil))
    · go_simp; exact hK _ _ (U _ _ _ _ (H5 W on g eb))
  have H7 : ∀ (W : World) (on : Oe W0 W e) (eb : EBox W e (A0) (.slice (some ⟨gb,0,none⟩) 1 cb)) ,R 7 #[Ix,Ix,Ix,Ix,Ix,Ix,Ix,Ox,Ox,Ox,Ox,Ox,Ox,Ox] { tmps := #[ρ e,v1,v2,v3,v4,v5,ρ p6,v7,v8,v9,v10,v11,v12,v13,v14,v15,v16,v17,v18,v19,v20,v21,v22,v23,v24,v25,v26,v27,v28,v29,v30,v31,v32,v33,v34,v35,v36,v37,v38,v39,v40,v41,v42,v43,v44,v45,v46,v47,v48,v49,v50,v51,v52,v53,ρ e,ρ e,ρ e,ρ e,.pointer (some ⟨e,1,none⟩),ς gb 1 cb,ν 0,v61,v62,v63,v64,v65,v66,v67,v68,v69,v70,v71,v72,v73],defers := [] } W := by
    intro W on eb
    rw [← hR]
    dsimp only [ρ,ς,ν]
    have e0 := eb.cell0
    have e1 := eb.cell1
    have f0 := eb.free 0
    have f1 := eb.free 1
    refine wpAnyIn_ready (rs := [7]) (by kernel_rfl) (by simp) (AllReadyIn.cons rfl (fun K hK => ?_) (AllReadyIn.nil))
    · go_simp
      gi_wp2_with (refine ⟨trivial,?_⟩; gi_at_call 46; refine (callsIn_wide.2 (wordsOf_zero W)).mono ?_; rintro e W2 ⟨g,rfl,hgl,hb⟩)
      exact U _ _ _ _ (H6 W2 (on.below hb) g (eb.below hb eb.lt))
  have H8 : ∀ (W : World) (on : Oe W0 W e) (eb : EBox W e (A0) (.slice (some ⟨gb,0,none⟩) 1 cb)) (v6 : Vx W p6 0),R 8 #[Ix,Ix,Ix,Ix,Ix,Ix,Ox,Ox,Ox,Ox,Ox,Ox,Ox,Ox] { tmps := #[ρ e,v1,v2,v3,v4,v5,ρ p6,v7,v8,v9,v10,v11,v12,v13,v14,v15,v16,v17,v18,v19,v20,v21,v22,v23,v24,v25,v26,v27,v28,v29,v30,v31,v32,v33,v34,v35,v36,v37,v38,v39,v40,v41,v42,v43,v44,v45,v46,v47,v48,v49,v50,v51,v52,v53,ρ e,ρ e,ρ e,ρ e,.pointer (some ⟨e,1,none⟩),ς gb 1 cb,v60,v61,v62,v63,v64,v65,v66,v67,v68,v69,v70,v71,v72,v73],defers := [] } W := by
    intro W on eb v6
    rw [← hR]
    dsimp only [ρ,ς]
    have e0 := eb.cell0
    have e1 := eb.cell1
    have f0 := eb.free 0
    have f1 := eb.free 1
    have g0 := v6.c0
    have g1 := v6.c1
    refine wpAnyIn_ready (rs := [6]) (by kernel_rfl) (by simp) (AllReadyIn.cons rfl (fun K hK => ?_) (AllReadyIn.nil))
    · go_simp; exact hK _ _ (U _ _ _ _ (H7 W on eb))
  have H9 : ∀ (W : World) (on : Oe W0 W e) (g : Nat) (eb : EBox W e (A0) (.slice (some ⟨gb,0,none⟩) 1 cb)) ,R 7 #[Ix,Ix,Ix,Ix,Ix,Ox,Ix,Ix,Ox,Ox,Ox,Ox,Ox,Ox] { tmps := #[ρ e,v1,v2,v3,v4,v5,ρ p6,v7,v8,v9,v10,v11,v12,v13,v14,v15,v16,v17,v18,v19,v20,v21,v22,v23,v24,v25,v26,v27,v28,v29,v30,v31,v32,v33,v34,v35,v36,v37,v38,v39,v40,v41,v42,v43,v44,v45,v46,v47,v48,v49,v50,v51,v52,v53,ρ e,ρ e,ρ e,ρ e,.pointer (some ⟨e,1,none⟩),v59,ν 0,ς g 0 0,v62,v63,v64,v65,v66,v67,v68,v69,v70,v71,v72,v73],defers := [] } W := by
    intro W on g eb
    rw [← hR]
    dsimp only [ρ,ς,ν]
    have e0 := eb.cell0
    have e1 := eb.cell1
    have f0 := eb.free 0
    have f1 := eb.free 1
    refine wpAnyIn_ready (rs := [5]) (by kernel_rfl) (by simp) (AllReadyIn.cons rfl (fun K hK => ?_) (AllReadyIn.nil))
    · go_simp; exact hK _ _ (U _ _ _ _ (H6 W on g eb))
  have H10 : ∀ (W : World) (on : Oe W0 W e) (eb : EBox W e (A0) (.slice (some ⟨gb,0,none⟩) 1 cb)) ,R 8 #[Ix,Ix,Ix,Ix,Ix,Ox,Ix,Ox,Ox,Ox,Ox,Ox,Ox,Ox] { tmps := #[ρ e,v1,v2,v3,v4,v5,ρ p6,v7,v8,v9,v10,v11,v12,v13,v14,v15,v16,v17,v18,v19,v20,v21,v22,v23,v24,v25,v26,v27,v28,v29,v30,v31,v32,v33,v34,v35,v36,v37,v38,v39,v40,v41,v42,v43,v44,v45,v46,v47,v48,v49,v50,v51,v52,v53,ρ e,ρ e,ρ e,ρ e,.pointer (some ⟨e,1,none⟩),v59,ν 0,v61,v62,v63,v64,v65,v66,v67,v68,v69,v70,v71,v72,v73],defers := [] } W := by
    intro W on eb
    rw [← hR]
    dsimp only [ρ,ν]
    have e0 := eb.cell0
    have e1 := eb.cell1
    have f0 := eb.free 0
    have f1 := eb.free 1
    refine wpAnyIn_ready (rs := [5,7]) (by kernel_rfl) (by simp) (AllReadyIn.cons rfl (fun K hK => ?_) (AllReadyIn.cons rfl (fun K hK => ?_) (AllReadyIn.nil)))
    · go_simp; exact hK _ _ (U _ _ _ _ (H7 W on eb))
    · go_simp
      gi_wp2_with (refine ⟨trivial,?_⟩; gi_at_call 46; refine (callsIn_wide.2 (wordsOf_zero W)).mono ?_; rintro e W2 ⟨g,rfl,hgl,hb⟩)
      exact U _ _ _ _ (H9 W2 (on.below hb) g (eb.below hb eb.lt))
  have H11 : ∀ (W : World) (on : Oe W0 W e) (eb : EBox W e (A0) (.slice (some ⟨gb,0,none⟩) 1 cb)) (v6 : Vx W p6 0),R 9 #[Ix,Ix,Ix,Ix,Ix,Ox,Ox,Ox,Ox,Ox,Ox,Ox,Ox,Ox] { tmps := #[ρ e,v1,v2,v3,v4,v5,ρ p6,v7,v8,v9,v10,v11,v12,v13,v14,v15,v16,v17,v18,v19,v20,v21,v22,v23,v24,v25,v26,v27,v28,v29,v30,v31,v32,v33,v34,v35,v36,v37,v38,v39,v40,v41,v42,v43,v44,v45,v46,v47,v48,v49,v50,v51,v52,v53,ρ e,ρ e,ρ e,ρ e,.pointer (some ⟨e,1,none⟩),v59,v60,v61,v62,v63,v64,v65,v66,v67,v68,v69,v70,v71,v72,v73],defers := [] } W := by
    intro W on eb v6
    rw [← hR]
    dsimp only [ρ]
    have e0 := eb.cell0
    have e1 := eb.cell1
    have f0 := eb.free 0
    have f1 := eb.free 1
    have g0 := v6.c0
    have g1 := v6.c1
    refine wpAnyIn_ready (rs := [5,6]) (by kernel_rfl) (by simp) (AllReadyIn.cons rfl (fun K hK => ?_) (AllReadyIn.cons rfl (fun K hK => ?_) (AllReadyIn.nil)))
    · go_simp; exact hK _ _ (U _ _ _ _ (H8 W on eb v6))
    · go_simp; exact hK _ _ (U _ _ _ _ (H10 W on eb))
  have H12 : ∀ (W : World) (on : Oe W0 W e) (g : Nat) (eb : EBox W e (A0) (.slice (some ⟨gb,0,none⟩) 1 cb)) ,R 8 #[Ix,Ix,Ix,Ix,Ox,Ox,Ix,Ix,Ox,Ox,Ox,Ox,Ox,Ox] { tmps := #[ρ e,v1,v2,v3,v4,v5,ρ p6,v7,v8,v9,v10,v11,v12,v13,v14,v15,v16,v17,v18,v19,v20,v21,v22,v23,v24,v25,v26,v27,v28,v29,v30,v31,v32,v33,v34,v35,v36,v37,v38,v39,v40,v41,v42,v43,v44,v45,v46,v47,v48,v49,v50,v51,v52,v53,ρ e,ρ e,ρ e,ρ e,v58,v59,ν 0,ς g 0 0,v62,v63,v64,v65,v66,v67,v68,v69,v70,v71,v72,v73],defers := [] } W := by
    intro W on g eb
    rw [← hR]
    dsimp only [ρ,ς,ν]
    have e0 := eb.cell0
    have e1 := eb.cell1
    have f0 := eb.free 0
    have f1 := eb.free 1
    refine wpAnyIn_ready (rs := [4]) (by kernel_rfl) (by simp) (AllReadyIn.cons rfl (fun K hK => ?_) (AllReadyIn.nil))
    · go_simp; exact hK _ _ (U _ _ _ _ (H9 W on g eb))
  have H13 : ∀ (W : World) (on : Oe W0 W e) (eb : EBox W e (A0) (.slice (some ⟨gb,0,none⟩) 1 cb)) ,R 9 #[Ix,Ix,Ix,Ix,Ox,Ox,Ix,Ox,Ox,Ox,Ox,Ox,Ox,Ox] { tmps := #[ρ e,v1,v2,v3,v4,v5,ρ p6,v7,v8,v9,v10,v11,v12,v13,v14,v15,v16,v17,v18,v19,v20,v21,v22,v23,v24,v25,v26,v27,v28,v29,v30,v31,v32,v33,v34,v35,v36,v37,v38,v39,v40,v41,v42,v43,v44,v45,v46,v47,v48,v49,v50,v51,v52,v53,ρ e,ρ e,ρ e,ρ e,v58,v59,ν 0,v61,v62,v63,v64,v65,v66,v67,v68,v69,v70,v71,v72,v73],defers := [] } W := by
    intro W on eb
    rw [← hR]
    dsimp only [ρ,ν]
    have e0 := eb.cell0
    have e1 := eb.cell1
    have f0 := eb.free 0
    have f1 := eb.free 1
    refine wpAnyIn_ready (rs := [4,7]) (by kernel_rfl) (by simp) (AllReadyIn.cons rfl (fun K hK => ?_) (AllReadyIn.cons rfl (fun K hK => ?_) (AllReadyIn.nil)))
    · go_simp; exact hK _ _ (U _ _ _ _ (H10 W on eb))
    · go_simp
      gi_wp2_with (refine ⟨trivial,?_⟩; gi_at_call 46; refine (callsIn_wide.2 (wordsOf_zero W)).mono ?_; rintro e W2 ⟨g,rfl,hgl,hb⟩)
      exact U _ _ _ _ (H12 W2 (on.below hb) g (eb.below hb eb.lt))
  have H14 : ∀ (W : World) (on : Oe W0 W e) (eb : EBox W e (A0) (.slice (some ⟨gb,0,none⟩) 1 cb)) (v6 : Vx W p6 0),R 10 #[Ix,Ix,Ix,Ix,Ox,Ox,Ox,Ox,Ox,Ox,Ox,Ox,Ox,Ox] { tmps := #[ρ e,v1,v2,v3,v4,v5,ρ p6,v7,v8,v9,v10,v11,v12,v13,v14,v15,v16,v17,v18,v19,v20,v21,v22,v23,v24,v25,v26,v27,v28,v29,v30,v31,v32,v33,v34,v35,v36,v37,v38,v39,v40,v41,v42,v43,v44,v45,v46,v47,v48,v49,v50,v51,v52,v53,ρ e,ρ e,ρ e,ρ e,v58,v59,v60,v61,v62,v63,v64,v65,v66,v67,v68,v69,v70,v71,v72,v73],defers := [] } W := by
    intro W on eb v6
    rw [← hR]
    dsimp only [ρ]
    have e0 := eb.cell0
    have e1 := eb.cell1
    have f0 := eb.free 0
    have f1 := eb.free 1
    have g0 := v6.c0
    have g1 := v6.c1
    refine wpAnyIn_ready (rs := [4,6]) (by kernel_rfl) (by simp) (AllReadyIn.cons rfl (fun K hK => ?_) (AllReadyIn.cons rfl (fun K hK => ?_) (AllReadyIn.nil)))
    · go_simp; exact hK _ _ (U _ _ _ _ (H11 W on eb v6))
    · go_simp; exact hK _ _ (U _ _ _ _ (H13 W on eb))
  have H15 : ∀ (W : World) (on : Oe W0 W e) (g : Nat) (eb : EBox W e (A0) (.slice (some ⟨gb,0,none⟩) 1 cb)) ,R 9 #[Ix,Ix,Ix,Ox,Ox,Ox,Ix,Ix,Ox,Ox,Ox,Ox,Ox,Ox] { tmps := #[ρ e,v1,v2,v3,v4,v5,ρ p6,v7,v8,v9,v10,v11,v12,v13,v14,v15,v16,v17,v18,v19,v20,v21,v22,v23,v24,v25,v26,v27,v28,v29,v30,v31,v32,v33,v34,v35,v36,v37,v38,v39,v40,v41,v42,v43,v44,v45,v46,v47,v48,v49,v50,v51,v52,v53,ρ e,ρ e,ρ e,v57,v58,v59,ν 0,ς g 0 0,v62,v63,v64,v65,v66,v67,v68,v69,v70,v71,v72,v73],defers := [] } W := by
    intro W on g eb
    rw [← hR]
    dsimp only [ρ,ς,ν]
    have e0 := eb.cell0
    have e1 := eb.cell1
    have f0 := eb.free 0
    have f1 := eb.free 1
    refine wpAnyIn_ready (rs := [3]) (by kernel_rfl) (by simp) (AllReadyIn.cons rfl (fun K hK => ?_) (AllReadyIn.nil))
    · go_simp; exact hK _ _ (U _ _ _ _ (H12 W on g eb))
  have H16 : ∀ (W : World) (on : Oe W0 W e) (eb : EBox W e (A0) (.slice (some ⟨gb,0,none⟩) 1 cb)) ,R 10 #[Ix,Ix,Ix,Ox,Ox,Ox,Ix,Ox,Ox,Ox,Ox,Ox,Ox,Ox] { tmps := #[ρ e,v1,v2,v3,v4,v5,ρ p6,v7,v8,v9,v10,v11,v12,v13,v14,v15,v16,v17,v18,v19,v20,v21,v22,v23,v24,v25,v26,v27,v28,v29,v30,v31,v32,v33,v34,v35,v36,v37,v38,v39,v40,v41,v42,v43,v44,v45,v46,v47,v48,v49,v50,v51,v52,v53,ρ e,ρ e,ρ e,v57,v58,v59,ν 0,v61,v62,v63,v64,v65,v66,v67,v68,v69,v70,v71,v72,v73],defers := [] } W := by
    intro W on eb
    rw [← hR]
    dsimp only [ρ,ν]
    have e0 := eb.cell0
    have e1 := eb.cell1
    have f0 := eb.free 0
    have f1 := eb.free 1
    refine wpAnyIn_ready (rs := [3,7]) (by kernel_rfl) (by simp) (AllReadyIn.cons rfl (fun K hK => ?_) (AllReadyIn.cons rfl (fun K hK => ?_) (AllReadyIn.nil)))
    · go_simp; exact hK _ _ (U _ _ _ _ (H13 W on eb))
    · go_simp
      gi_wp2_with (refine ⟨trivial,?_⟩; gi_at_call 46; refine (callsIn_wide.2 (wordsOf_zero W)).mono ?_; rintro e W2 ⟨g,rfl,hgl,hb⟩)
      exact U _ _ _ _ (H15 W2 (on.below hb) g (eb.below hb eb.lt))
  have H17 : ∀ (W : World) (on : Oe W0 W e) (eb : EBox W e (A0) (.slice (some ⟨gb,0,none⟩) 1 cb)) (v6 : Vx W p6 0),R 11 #[Ix,Ix,Ix,Ox,Ox,Ox,Ox,Ox,Ox,Ox,Ox,Ox,Ox,Ox] { tmps := #[ρ e,v1,v2,v3,v4,v5,ρ p6,v7,v8,v9,v10,v11,v12,v13,v14,v15,v16,v17,v18,v19,v20,v21,v22,v23,v24,v25,v26,v27,v28,v29,v30,v31,v32,v33,v34,v35,v36,v37,v38,v39,v40,v41,v42,v43,v44,v45,v46,v47,v48,v49,v50,v51,v52,v53,ρ e,ρ e,ρ e,v57,v58,v59,v60,v61,v62,v63,v64,v65,v66,v67,v68,v69,v70,v71,v72,v73],defers := [] } W := by
    intro W on eb v6
    rw [← hR]
    dsimp only [ρ]
    have e0 := eb.cell0
    have e1 := eb.cell1
    have f0 := eb.free 0
    have f1 := eb.free 1
    have g0 := v6.c0
    have g1 := v6.c1
    refine wpAnyIn_ready (rs := [3,6]) (by kernel_rfl) (by simp) (AllReadyIn.cons rfl (fun K hK => ?_) (AllReadyIn.cons rfl (fun K hK => ?_) (AllReadyIn.nil)))
    · go_simp; exact hK _ _ (U _ _ _ _ (H14 W on eb v6))
    · go_simp; exact hK _ _ (U _ _ _ _ (H16 W on eb))
  have H18 : ∀ (W : World) (on : Oe W0 W e) (g : Nat) (eb : EBox W e (A0) (.slice (some ⟨gb,0,none⟩) 1 cb)) ,R 10 #[Ix,Ix,Ox,Ox,Ox,Ox,Ix,Ix,Ox,Ox,Ox,Ox,Ox,Ox] { tmps := #[ρ e,v1,v2,v3,v4,v5,ρ p6,v7,v8,v9,v10,v11,v12,v13,v14,v15,v16,v17,v18,v19,v20,v21,v22,v23,v24,v25,v26,v27,v28,v29,v30,v31,v32,v33,v34,v35,v36,v37,v38,v39,v40,v41,v42,v43,v44,v45,v46,v47,v48,v49,v50,v51,v52,v53,ρ e,ρ e,v56,v57,v58,v59,ν 0,ς g 0 0,v62,v63,v64,v65,v66,v67,v68,v69,v70,v71,v72,v73],defers := [] } W := by
    intro W on g eb
    rw [← hR]
    dsimp only [ρ,ς,ν]
    have e0 := eb.cell0
    have e1 := eb.cell1
    have f0 := eb.free 0
    have f1 := eb.free 1
    refine wpAnyIn_ready (rs := [2]) (by kernel_rfl) (by simp) (AllReadyIn.cons rfl (fun K hK => ?_) (AllReadyIn.nil))
    · go_simp; exact hK _ _ (U _ _ _ _ (H15 W on g eb))
  have H19 : ∀ (W : World) (on : Oe W0 W e) (eb : EBox W e (A0) (.slice (some ⟨gb,0,none⟩) 1 cb)) ,R 11 #[Ix,Ix,Ox,Ox,Ox,Ox,Ix,Ox,Ox,Ox,Ox,Ox,Ox,Ox] { tmps := #[ρ e,v1,v2,v3,v4,v5,ρ p6,v7,v8,v9,v10,v11,v12,v13,v14,v15,v16,v17,v18,v19,v20,v21,v22,v23,v24,v25,v26,v27,v28,v29,v30,v31,v32,v33,v34,v35,v36,v37,v38,v39,v40,v41,v42,v43,v44,v45,v46,v47,v48,v49,v50,v51,v52,v53,ρ e,ρ e,v56,v57,v58,v59,ν 0,v61,v62,v63,v64,v65,v66,v67,v68,v69,v70,v71,v72,v73],defers := [] } W := by
    intro W on eb
    rw [← hR]
    dsimp only [ρ,ν]
    have e0 := eb.cell0
    have e1 := eb.cell1
    have f0 := eb.free 0
    have f1 := eb.free 1
    refine wpAnyIn_ready (rs := [2,7]) (by kernel_rfl) (by simp) (AllReadyIn.cons rfl (fun K hK => ?_) (AllReadyIn.cons rfl (fun K hK => ?_) (AllReadyIn.nil)))
    · go_simp; exact hK _ _ (U _ _ _ _ (H16 W on eb))
    · go_simp
      gi_wp2_with (refine ⟨trivial,?_⟩; gi_at_call 46; refine (callsIn_wide.2 (wordsOf_zero W)).mono ?_; rintro e W2 ⟨g,rfl,hgl,hb⟩)
      exact U _ _ _ _ (H18 W2 (on.below hb) g (eb.below hb eb.lt))
  have H20 : ∀ (W : World) (on : Oe W0 W e) (eb : EBox W e (A0) (.slice (some ⟨gb,0,none⟩) 1 cb)) (v6 : Vx W p6 0),R 12 #[Ix,Ix,Ox,Ox,Ox,Ox,Ox,Ox,Ox,Ox,Ox,Ox,Ox,Ox] { tmps := #[ρ e,v1,v2,v3,v4,v5,ρ p6,v7,v8,v9,v10,v11,v12,v13,v14,v15,v16,v17,v18,v19,v20,v21,v22,v23,v24,v25,v26,v27,v28,v29,v30,v31,v32,v33,v34,v35,v36,v37,v38,v39,v40,v41,v42,v43,v44,v45,v46,v47,v48,v49,v50,v51,v52,v53,ρ e,ρ e,v56,v57,v58,v59,v60,v61,v62,v63,v64,v65,v66,v67,v68,v69,v70,v71,v72,v73],defers := [] } W := by
    intro W on eb v6
    rw [← hR]
    dsimp only [ρ]
    have e0 := eb.cell0
    have e1 := eb.cell1
    have f0 := eb.free 0
    have f1 := eb.free 1
    have g0 := v6.c0
    have g1 := v6.c1
    refine wpAnyIn_ready (rs := [2,6]) (by kernel_rfl) (by simp) (AllReadyIn.cons rfl (fun K hK => ?_) (AllReadyIn.cons rfl (fun K hK => ?_) (AllReadyIn.nil)))
    · go_simp; exact hK _ _ (U _ _ _ _ (H17 W on eb v6))
    · go_simp; exact hK _ _ (U _ _ _ _ (H19 W on eb))
  have H21 : ∀ (W : World) (on : Oe W0 W e) (g : Nat) (eb : EBox W e (.slice (some ⟨gb,0,none⟩) 1 cb) (.slice (some ⟨gb,0,none⟩) 1 cb)) ,R 4 #[Ix,Ox,Ix,Ix,Ix,Ix,Ix,Ix,Ix,Ix,Ix,Ox,Ox,Ox] { tmps := #[ρ e,v1,v2,v3,v4,v5,ρ p6,v7,v8,v9,v10,v11,v12,v13,v14,v15,v16,v17,v18,v19,v20,v21,v22,v23,v24,v25,v26,v27,v28,v29,v30,v31,v32,v33,v34,v35,v36,v37,v38,v39,v40,v41,v42,v43,v44,v45,v46,v47,v48,v49,v50,v51,v52,v53,ρ e,v55,ρ e,ρ e,.pointer (some ⟨e,1,none⟩),ς gb 1 cb,ν 0,ς g 0 0,ρ e,ρ e,v64,v65,v66,v67,v68,v69,v70,v71,v72,v73],defers := [] } W := by
    intro W on g eb
    rw [← hR]
    dsimp only [ρ,ς,ν]
    have e0 := eb.cell0
    have e1 := eb.cell1
    have f0 := eb.free 0
    have f1 := eb.free 1
    refine wpAnyIn_ready (rs := [1]) (by kernel_rfl) (by simp) (AllReadyIn.cons rfl (fun K hK => ?_) (AllReadyIn.nil))
    · go_simp; exact hK _ _ (U _ _ _ _ (H3 W on g eb))
  have H22 : ∀ (W : World) (on : Oe W0 W e) (g : Nat) (eb : EBox W e (A0) (.slice (some ⟨gb,0,none⟩) 1 cb)) ,R 5 #[Ix,Ox,Ix,Ix,Ix,Ix,Ix,Ix,Ix,Ix,Ox,Ox,Ox,Ox] { tmps := #[ρ e,v1,v2,v3,v4,v5,ρ p6,v7,v8,v9,v10,v11,v12,v13,v14,v15,v16,v17,v18,v19,v20,v21,v22,v23,v24,v25,v26,v27,v28,v29,v30,v31,v32,v33,v34,v35,v36,v37,v38,v39,v40,v41,v42,v43,v44,v45,v46,v47,v48,v49,v50,v51,v52,v53,ρ e,v55,ρ e,ρ e,.pointer (some ⟨e,1,none⟩),ς gb 1 cb,ν 0,ς g 0 0,ρ e,ρ e,v64,v65,v66,v67,v68,v69,v70,v71,v72,v73],defers := [] } W := by
    intro W on g eb
    rw [← hR]
    dsimp only [ρ,ς,ν]
    have e0 := eb.cell0
    have e1 := eb.cell1
    have f0 := eb.free 0
    have f1 := eb.free 1
    refine wpAnyIn_ready (rs := [1,10]) (by kernel_rfl) (by simp) (AllReadyIn.cons rfl (fun K hK => ?_) (AllReadyIn.cons rfl (fun K hK => ?_) (AllReadyIn.nil)))
    · go_simp; exact hK _ _ (U _ _ _ _ (H4 W on g eb))
    · go_simp; exact hK _ _ (U _ _ _ _ (H21 (W.setCell ⟨e,0,none⟩ (.slice (some ⟨gb,0,none⟩) 1 cb)) (on.set rfl _ _) g (eb.set0 _)))
  have H23 : ∀ (W : World) (on : Oe W0 W e) (g : Nat) (eb : EBox W e (A0) (.slice (some ⟨gb,0,none⟩) 1 cb)) ,R 6 #[Ix,Ox,Ix,Ix,Ix,Ix,Ix,Ix,Ix,Ox,Ox,Ox,Ox,Ox] { tmps := #[ρ e,v1,v2,v3,v4,v5,ρ p6,v7,v8,v9,v10,v11,v12,v13,v14,v15,v16,v17,v18,v19,v20,v21,v22,v23,v24,v25,v26,v27,v28,v29,v30,v31,v32,v33,v34,v35,v36,v37,v38,v39,v40,v41,v42,v43,v44,v45,v46,v47,v48,v49,v50,v51,v52,v53,ρ e,v55,ρ e,ρ e,.pointer (some ⟨e,1,none⟩),ς gb 1 cb,ν 0,ς g 0 0,ρ e,v63,v64,v65,v66,v67,v68,v69,v70,v71,v72,v73],defers := [] } W := by
    intro W on g eb
    rw [← hR]
    dsimp only [ρ,ς,ν]
    have e0 := eb.cell0
    have e1 := eb.cell1
    have f0 := eb.free 0
    have f1 := eb.free 1
    refine wpAnyIn_ready (rs := [1,9]) (by kernel_rfl) (by simp) (AllReadyIn.cons rfl (fun K hK => ?_) (AllReadyIn.cons rfl (fun K hK => ?_) (AllReadyIn.nil)))
    · go_simp; exact hK _ _ (U _ _ _ _ (H5 W on g eb))
    · go_simp; exact hK _ _ (U _ _ _ _ (H22 W on g eb))
  have H24 : ∀ (W : World) (on : Oe W0 W e) (g : Nat) (eb : EBox W e (A0) (.slice (some ⟨gb,0,none⟩) 1 cb)) ,R 7 #[Ix,Ox,Ix,Ix,Ix,Ix,Ix,Ix,Ox,Ox,Ox,Ox,Ox,Ox] { tmps := #[ρ e,v1,v2,v3,v4,v5,ρ p6,v7,v8,v9,v10,v11,v12,v13,v14,v15,v16,v17,v18,v19,v20,v21,v22,v23,v24,v25,v26,v27,v28,v29,v30,v31,v32,v33,v34,v35,v36,v37,v38,v39,v40,v41,v42,v43,v44,v45,v46,v47,v48,v49,v50,v51,v52,v53,ρ e,v55,ρ e,ρ e,.pointer (some ⟨e,1,none⟩),ς gb 1 cb,ν 0,ς g 0 0,v62,v63,v64,v65,v66,v67,v68,v69,v70,v71,v72,v73],defers := [] } W := by
    intro W on g eb
    rw [← hR]
    dsimp only [ρ,ς,ν]
    have e0 := eb.cell0
    have e1 := eb.cell1
    have f0 := eb.free 0
    have f1 := eb.free 1
    refine wpAnyIn_ready (rs := [1,8]) (by kernel_rfl) (by simp) (AllReadyIn.cons rfl (fun K hK => ?_) (AllReadyIn.cons rfl (fun K hK => ?_) (AllReadyIn.nil)))
    · go_simp; exact hK _ _ (U _ _ _ _ (H6 W on g eb))
    · go_simp; exact hK _ _ (U _ _ _ _ (H23 W on g eb))
  have H25 : ∀ (W : World) (on : Oe W0 W e) (eb : EBox W e (A0) (.slice (some ⟨gb,0,none⟩) 1 cb)) ,R 8 #[Ix,Ox,Ix,Ix,Ix,Ix,Ix,Ox,Ox,Ox,Ox,Ox,Ox,Ox] { tmps := #[ρ e,v1,v2,v3,v4,v5,ρ p6,v7,v8,v9,v10,v11,v12,v13,v14,v15,v16,v17,v18,v19,v20,v21,v22,v23,v24,v25,v26,v27,v28,v29,v30,v31,v32,v33,v34,v35,v36,v37,v38,v39,v40,v41,v42,v43,v44,v45,v46,v47,v48,v49,v50,v51,v52,v53,ρ e,v55,ρ e,ρ e,.pointer (some ⟨e,1,none⟩),ς gb 1 cb,ν 0,v61,v62,v63,v64,v65,v66,v67,v68,v69,v70,v71,v72,v73],defers := [] } W := by
    intro W on eb
    rw [← hR]
    dsimp only [ρ,ς,ν]
    have e0 := eb.cell0
    have e1 := eb.cell1
    have f0 := eb.free 0
    have f1 := eb.free 1
    refine wpAnyIn_ready (rs := [1,7]) (by kernel_rfl) (by simp) (AllReadyIn.cons rfl (fun K hK => ?_) (AllReadyIn.cons rfl (fun K hK => ?_) (AllReadyIn.nil)))
    · go_simp; exact hK _ _ (U _ _ _ _ (H7 W on eb))
    · go_simp
      gi_wp2_with (refine ⟨trivial,?_⟩; gi_at_call 46; refine (callsIn_wide.2 (wordsOf_zero W)).mono ?_; rintro e W2 ⟨g,rfl,hgl,hb⟩)
      exact U _ _ _ _ (H24 W2 (on.below hb) g (eb.below hb eb.lt))
  have H26 : ∀ (W : World) (on : Oe W0 W e) (eb : EBox W e (A0) (.slice (some ⟨gb,0,none⟩) 1 cb)) (v6 : Vx W p6 0),R 9 #[Ix,Ox,Ix,Ix,Ix,Ix,Ox,Ox,Ox,Ox,Ox,Ox,Ox,Ox] { tmps := #[ρ e,v1,v2,v3,v4,v5,ρ p6,v7,v8,v9,v10,v11,v12,v13,v14,v15,v16,v17,v18,v19,v20,v21,v22,v23,v24,v25,v26,v27,v28,v29,v30,v31,v32,v33,v34,v35,v36,v37,v38,v39,v40,v41,v42,v43,v44,v45,v46,v47,v48,v49,v50,v51,v52,v53,ρ e,v55,ρ e,ρ e,.pointer (some ⟨e,1,none⟩),ς gb 1 cb,v60,v61,v62,v63,v64,v65,v66,v67,v68,v69,v70,v71,v72,v73],defers := [] } W := by
    intro W on eb v6
    rw [← hR]
    dsimp only [ρ,ς]
    have e0 := eb.cell0
    have e1 := eb.cell1
    have f0 := eb.free 0
    have f1 := eb.free 1
    have g0 := v6.c0
    have g1 := v6.c1
    refine wpAnyIn_ready (rs := [1,6]) (by kernel_rfl) (by simp) (AllReadyIn.cons rfl (fun K hK => ?_) (AllReadyIn.cons rfl (fun K hK => ?_) (AllReadyIn.nil)))
    · go_simp; exact hK _ _ (U _ _ _ _ (H8 W on eb v6))
    · go_simp; exact hK _ _ (U _ _ _ _ (H25 W on eb))
  have H27 : ∀ (W : World) (on : Oe W0 W e) (g : Nat) (eb : EBox W e (A0) (.slice (some ⟨gb,0,none⟩) 1 cb)) ,R 8 #[Ix,Ox,Ix,Ix,Ix,Ox,Ix,Ix,Ox,Ox,Ox,Ox,Ox,Ox] { tmps := #[ρ e,v1,v2,v3,v4,v5,ρ p6,v7,v8,v9,v10,v11,v12,v13,v14,v15,v16,v17,v18,v19,v20,v21,v22,v23,v24,v25,v26,v27,v28,v29,v30,v31,v32,v33,v34,v35,v36,v37,v38,v39,v40,v41,v42,v43,v44,v45,v46,v47,v48,v49,v50,v51,v52,v53,ρ e,v55,ρ e,ρ e,.pointer (some ⟨e,1,none⟩),v59,ν 0,ς g 0 0,v62,v63,v64,v65,v66,v67,v68,v69,v70,v71,v72,v73],defers := [] } W := by
    intro W on g eb
    rw [← hR]
    dsimp only [ρ,ς,ν]
    have e0 := eb.cell0
    have e1 := eb.cell1
    have f0 := eb.free 0
    have f1 := eb.free 1
    refine wpAnyIn_ready (rs := [1,5]) (by kernel_rfl) (by simp) (AllReadyIn.cons rfl (fun K hK => ?_) (AllReadyIn.cons rfl (fun K hK => ?_) (AllReadyIn.nil)))
    · go_simp; exact hK _ _ (U _ _ _ _ (H9 W on g eb))
    · go_simp; exact hK _ _ (U _ _ _ _ (H24 W on g eb))
  have H28 : ∀ (W : World) (on : Oe W0 W e) (eb : EBox W e (A0) (.slice (some ⟨gb,0,none⟩) 1 cb)) ,R 9 #[Ix,Ox,Ix,Ix,Ix,Ox,Ix,Ox,Ox,Ox,Ox,Ox,Ox,Ox] { tmps := #[ρ e,v1,v2,v3,v4,v5,ρ p6,v7,v8,v9,v10,v11,v12,v13,v14,v15,v16,v17,v18,v19,v20,v21,v22,v23,v24,v25,v26,v27,v28,v29,v30,v31,v32,v33,v34,v35,v36,v37,v38,v39,v40,v41,v42,v43,v44,v45,v46,v47,v48,v49,v50,v51,v52,v53,ρ e,v55,ρ e,ρ e,.pointer (some ⟨e,1,none⟩),v59,ν 0,v61,v62,v63,v64,v65,v66,v67,v68,v69,v70,v71,v72,v73],defers := [] } W := by
    intro W on eb
    rw [← hR]
    dsimp only [ρ,ν]
    have e0 := eb.cell0
    have e1 := eb.cell1
    have f0 := eb.free 0
    have f1 := eb.free 1
    refine wpAnyIn_ready (rs := [1,5,7]) (by kernel_rfl) (by simp) (AllReadyIn.cons rfl (fun K hK => ?_) (AllReadyIn.cons rfl (fun K hK => ?_) (AllReadyIn.cons rfl (fun K hK => ?_) (AllReadyIn.nil))))
    · go_simp; exact hK _ _ (U _ _ _ _ (H10 W on eb))
    · go_simp; exact hK _ _ (U _ _ _ _ (H25 W on eb))
    · go_simp
      gi_wp2_with (refine ⟨trivial,?_⟩; gi_at_call 46; refine (callsIn_wide.2 (wordsOf_zero W)).mono ?_; rintro e W2 ⟨g,rfl,hgl,hb⟩)
      exact U _ _ _ _ (H27 W2 (on.below hb) g (eb.below hb eb.lt))
  have H29 : ∀ (W : World) (on : Oe W0 W e) (eb : EBox W e (A0) (.slice (some ⟨gb,0,none⟩) 1 cb)) (v6 : Vx W p6 0),R 10 #[Ix,Ox,Ix,Ix,Ix,Ox,Ox,Ox,Ox,Ox,Ox,Ox,Ox,Ox] { tmps := #[ρ e,v1,v2,v3,v4,v5,ρ p6,v7,v8,v9,v10,v11,v12,v13,v14,v15,v16,v17,v18,v19,v20,v21,v22,v23,v24,v25,v26,v27,v28,v29,v30,v31,v32,v33,v34,v35,v36,v37,v38,v39,v40,v41,v42,v43,v44,v45,v46,v47,v48,v49,v50,v51,v52,v53,ρ e,v55,ρ e,ρ e,.pointer (some ⟨e,1,none⟩),v59,v60,v61,v62,v63,v64,v65,v66,v67,v68,v69,v70,v71,v72,v73],defers := [] } W := by
    intro W on eb v6
    rw [← hR]
    dsimp only [ρ]
    have e0 := eb.cell0
    have e1 := eb.cell1
    have f0 := eb.free 0
    have f1 := eb.free 1
    have g0 := v6.c0
    have g1 := v6.c1
    refine wpAnyIn_ready (rs := [1,5,6]) (by kernel_rfl) (by simp) (AllReadyIn.cons rfl (fun K hK => ?_) (AllReadyIn.cons rfl (fun K hK => ?_) (AllReadyIn.cons rfl (fun K hK => ?_) (AllReadyIn.nil))))
    · go_simp; exact hK _ _ (U _ _ _ _ (H11 W on eb v6))
    · go_simp; exact hK _ _ (U _ _ _ _ (H26 W on eb v6))
    · go_simp; exact hK _ _ (U _ _ _ _ (H28 W on eb))
  have H30 : ∀ (W : World) (on : Oe W0 W e) (g : Nat) (eb : EBox W e (A0) (.slice (some ⟨gb,0,none⟩) 1 cb)) ,R 9 #[Ix,Ox,Ix,Ix,Ox,Ox,Ix,Ix,Ox,Ox,Ox,Ox,Ox,Ox] { tmps := #[ρ e,v1,v2,v3,v4,v5,ρ p6,v7,v8,v9,v10,v11,v12,v13,v14,v15,v16,v17,v18,v19,v20,v21,v22,v23,v24,v25,v26,v27,v28,v29,v30,v31,v32,v33,v34,v35,v36,v37,v38,v39,v40,v41,v42,v43,v44,v45,v46,v47,v48,v49,v50,v51,v52,v53,ρ e,v55,ρ e,ρ e,v58,v59,ν 0,ς g 0 0,v62,v63,v64,v65,v66,v67,v68,v69,v70,v71,v72,v73],defers := [] } W := by
    intro W on g eb
    rw [← hR]
    dsimp only [ρ,ς,ν]
    have e0 := eb.cell0
    have e1 := eb.cell1
    have f0 := eb.free 0
    have f1 := eb.free 1
    refine wpAnyIn_ready (rs := [1,4]) (by kernel_rfl) (by simp) (AllReadyIn.cons rfl (fun K hK => ?_) (AllReadyIn.cons rfl (fun K hK => ?_) (AllReadyIn.nil)))
    · go_simp; exact hK _ _ (U _ _ _ _ (H12 W on g eb))
    · go_simp; exact hK _ _ (U _ _ _ _ (H27 W on g eb))
  have H31 : ∀ (W : World) (on : Oe W0 W e) (eb : EBox W e (A0) (.slice (some ⟨gb,0,none⟩) 1 cb)) ,R 10 #[Ix,Ox,Ix,Ix,Ox,Ox,Ix,Ox,Ox,Ox,Ox,Ox,Ox,Ox] { tmps := #[ρ e,v1,v2,v3,v4,v5,ρ p6,v7,v8,v9,v10,v11,v12,v13,v14,v15,v16,v17,v18,v19,v20,v21,v22,v23,v24,v25,v26,v27,v28,v29,v30,v31,v32,v33,v34,v35,v36,v37,v38,v39,v40,v41,v42,v43,v44,v45,v46,v47,v48,v49,v50,v51,v52,v53,ρ e,v55,ρ e,ρ e,v58,v59,ν 0,v61,v62,v63,v64,v65,v66,v67,v68,v69,v70,v71,v72,v73],defers := [] } W := by
    intro W on eb
    rw [← hR]
    dsimp only [ρ,ν]
    have e0 := eb.cell0
    have e1 := eb.cell1
    have f0 := eb.free 0
    have f1 := eb.free 1
    refine wpAnyIn_ready (rs := [1,4,7]) (by kernel_rfl) (by simp) (AllReadyIn.cons rfl (fun K hK => ?_) (AllReadyIn.cons rfl (fun K hK => ?_) (AllReadyIn.cons rfl (fun K hK => ?_) (AllReadyIn.nil))))
    · go_simp; exact hK _ _ (U _ _ _ _ (H13 W on eb))
    · go_simp; exact hK _ _ (U _ _ _ _ (H28 W on eb))
    · go_simp
      gi_wp2_with (refine ⟨trivial,?_⟩; gi_at_call 46; refine (callsIn_wide.2 (wordsOf_zero W)).mono ?_; rintro e W2 ⟨g,rfl,hgl,hb⟩)
      exact U _ _ _ _ (H30 W2 (on.below hb) g (eb.below hb eb.lt))
  have H32 : ∀ (W : World) (on : Oe W0 W e) (eb : EBox W e (A0) (.slice (some ⟨gb,0,none⟩) 1 cb)) (v6 : Vx W p6 0),R 11 #[Ix,Ox,Ix,Ix,Ox,Ox,Ox,Ox,Ox,Ox,Ox,Ox,Ox,Ox] { tmps := #[ρ e,v1,v2,v3,v4,v5,ρ p6,v7,v8,v9,v10,v11,v12,v13,v14,v15,v16,v17,v18,v19,v20,v21,v22,v23,v24,v25,v26,v27,v28,v29,v30,v31,v32,v33,v34,v35,v36,v37,v38,v39,v40,v41,v42,v43,v44,v45,v46,v47,v48,v49,v50,v51,v52,v53,ρ e,v55,ρ e,ρ e,v58,v59,v60,v61,v62,v63,v64,v65,v66,v67,v68,v69,v70,v71,v72,v73],defers := [] } W := by
    intro W on eb v6
    rw [← hR]
    dsimp only [ρ]
    have e0 := eb.cell0
    have e1 := eb.cell1
    have f0 := eb.free 0
    have f1 := eb.free 1
    have g0 := v6.c0
    have g1 := v6.c1
    refine wpAnyIn_ready (rs := [1,4,6]) (by kernel_rfl) (by simp) (AllReadyIn.cons rfl (fun K hK => ?_) (AllReadyIn.cons rfl (fun K hK => ?_) (AllReadyIn.cons rfl (fun K hK => ?_) (AllReadyIn.nil))))
    · go_simp; exact hK _ _ (U _ _ _ _ (H14 W on eb v6))
    · go_simp; exact hK _ _ (U _ _ _ _ (H29 W on eb v6))
    · go_simp; exact hK _ _ (U _ _ _ _ (H31 W on eb))
  have H33 : ∀ (W : World) (on : Oe W0 W e) (g : Nat) (eb : EBox W e (A0) (.slice (some ⟨gb,0,none⟩) 1 cb)) ,R 10 #[Ix,Ox,Ix,Ox,Ox,Ox,Ix,Ix,Ox,Ox,Ox,Ox,Ox,Ox] { tmps := #[ρ e,v1,v2,v3,v4,v5,ρ p6,v7,v8,v9,v10,v11,v12,v13,v14,v15,v16,v17,v18,v19,v20,v21,v22,v23,v24,v25,v26,v27,v28,v29,v30,v31,v32,v33,v34,v35,v36,v37,v38,v39,v40,v41,v42,v43,v44,v45,v46,v47,v48,v49,v50,v51,v52,v53,ρ e,v55,ρ e,v57,v58,v59,ν 0,ς g 0 0,v62,v63,v64,v65,v66,v67,v68,v69,v70,v71,v72,v73],defers := [] } W := by
    intro W on g eb
    rw [← hR]
    dsimp only [ρ,ς,ν]
    have e0 := eb.cell0
    have e1 := eb.cell1
    have f0 := eb.free 0
    have f1 := eb.free 1
    refine wpAnyIn_ready (rs := [1,3]) (by kernel_rfl) (by simp) (AllReadyIn.cons rfl (fun K hK => ?_) (AllReadyIn.cons rfl (fun K hK => ?_) (AllReadyIn.nil)))
    · go_simp; exact hK _ _ (U _ _ _ _ (H15 W on g eb))
    · go_simp; exact hK _ _ (U _ _ _ _ (H30 W on g eb))
  have H34 : ∀ (W : World) (on : Oe W0 W e) (eb : EBox W e (A0) (.slice (some ⟨gb,0,none⟩) 1 cb)) ,R 11 #[Ix,Ox,Ix,Ox,Ox,Ox,Ix,Ox,Ox,Ox,Ox,Ox,Ox,Ox] { tmps := #[ρ e,v1,v2,v3,v4,v5,ρ p6,v7,v8,v9,v10,v11,v12,v13,v14,v15,v16,v17,v18,v19,v20,v21,v22,v23,v24,v25,v26,v27,v28,v29,v30,v31,v32,v33,v34,v35,v36,v37,v38,v39,v40,v41,v42,v43,v44,v45,v46,v47,v48,v49,v50,v51,v52,v53,ρ e,v55,ρ e,v57,v58,v59,ν 0,v61,v62,v63,v64,v65,v66,v67,v68,v69,v70,v71,v72,v73],defers := [] } W := by
    intro W on eb
    rw [← hR]
    dsimp only [ρ,ν]
    have e0 := eb.cell0
    have e1 := eb.cell1
    have f0 := eb.free 0
    have f1 := eb.free 1
    refine wpAnyIn_ready (rs := [1,3,7]) (by kernel_rfl) (by simp) (AllReadyIn.cons rfl (fun K hK => ?_) (AllReadyIn.cons rfl (fun K hK => ?_) (AllReadyIn.cons rfl (fun K hK => ?_) (AllReadyIn.nil))))
    · go_simp; exact hK _ _ (U _ _ _ _ (H16 W on eb))
    · go_simp; exact hK _ _ (U _ _ _ _ (H31 W on eb))
    · go_simp
      gi_wp2_with (refine ⟨trivial,?_⟩; gi_at_call 46; refine (callsIn_wide.2 (wordsOf_zero W)).mono ?_; rintro e W2 ⟨g,rfl,hgl,hb⟩)
      exact U _ _ _ _ (H33 W2 (on.below hb) g (eb.below hb eb.lt))
  have H35 : ∀ (W : World) (on : Oe W0 W e) (eb : EBox W e (A0) (.slice (some ⟨gb,0,none⟩) 1 cb)) (v6 : Vx W p6 0),R 12 #[Ix,Ox,Ix,Ox,Ox,Ox,Ox,Ox,Ox,Ox,Ox,Ox,Ox,Ox] { tmps := #[ρ e,v1,v2,v3,v4,v5,ρ p6,v7,v8,v9,v10,v11,v12,v13,v14,v15,v16,v17,v18,v19,v20,v21,v22,v23,v24,v25,v26,v27,v28,v29,v30,v31,v32,v33,v34,v35,v36,v37,v38,v39,v40,v41,v42,v43,v44,v45,v46,v47,v48,v49,v50,v51,v52,v53,ρ e,v55,ρ e,v57,v58,v59,v60,v61,v62,v63,v64,v65,v66,v67,v68,v69,v70,v71,v72,v73],defers := [] } W := by
    intro W on eb v6
    rw [← hR]
    dsimp only [ρ]
    have e0 := eb.cell0
    have e1 := eb.cell1
    have f0 := eb.free 0
    have f1 := eb.free 1
    have g0 := v6.c0
    have g1 := v6.c1
    refine wpAnyIn_ready (rs := [1,3,6]) (by kernel_rfl) (by simp) (AllReadyIn.cons rfl (fun K hK => ?_) (AllReadyIn.cons rfl (fun K hK => ?_) (AllReadyIn.cons rfl (fun K hK => ?_) (AllReadyIn.nil))))
    · go_simp; exact hK _ _ (U _ _ _ _ (H17 W on eb v6))
    · go_simp; exact hK _ _ (U _ _ _ _ (H32 W on eb v6))
    · go_simp; exact hK _ _ (U _ _ _ _ (H34 W on eb))
  have H36 : ∀ (W : World) (on : Oe W0 W e) (g : Nat) (eb : EBox W e (A0) (.slice (some ⟨gb,0,none⟩) 1 cb)) ,R 11 #[Ix,Ox,Ox,Ox,Ox,Ox,Ix,Ix,Ox,Ox,Ox,Ox,Ox,Ox] { tmps := #[ρ e,v1,v2,v3,v4,v5,ρ p6,v7,v8,v9,v10,v11,v12,v13,v14,v15,v16,v17,v18,v19,v20,v21,v22,v23,v24,v25,v26,v27,v28,v29,v30,v31,v32,v33,v34,v35,v36,v37,v38,v39,v40,v41,v42,v43,v44,v45,v46,v47,v48,v49,v50,v51,v52,v53,ρ e,v55,v56,v57,v58,v59,ν 0,ς g 0 0,v62,v63,v64,v65,v66,v67,v68,v69,v70,v71,v72,v73],defers := [] } W := by
    intro W on g eb
    rw [← hR]
    dsimp only [ρ,ς,ν]
    have e0 := eb.cell0
    have e1 := eb.cell1
    have f0 := eb.free 0
    have f1 := eb.free 1
    refine wpAnyIn_ready (rs := [1,2]) (by kernel_rfl) (by simp) (AllReadyIn.cons rfl (fun K hK => ?_) (AllReadyIn.cons rfl (fun K hK => ?_) (AllReadyIn.nil)))
    · go_simp; exact hK _ _ (U _ _ _ _ (H18 W on g eb))
    · go_simp; exact hK _ _ (U _ _ _ _ (H33 W on g eb))
  have H37 : ∀ (W : World) (on : Oe W0 W e) (eb : EBox W e (A0) (.slice (some ⟨gb,0,none⟩) 1 cb)) ,R 12 #[Ix,Ox,Ox,Ox,Ox,Ox,Ix,Ox,Ox,Ox,Ox,Ox,Ox,Ox] { tmps := #[ρ e,v1,v2,v3,v4,v5,ρ p6,v7,v8,v9,v10,v11,v12,v13,v14,v15,v16,v17,v18,v19,v20,v21,v22,v23,v24,v25,v26,v27,v28,v29,v30,v31,v32,v33,v34,v35,v36,v37,v38,v39,v40,v41,v42,v43,v44,v45,v46,v47,v48,v49,v50,v51,v52,v53,ρ e,v55,v56,v57,v58,v59,ν 0,v61,v62,v63,v64,v65,v66,v67,v68,v69,v70,v71,v72,v73],defers := [] } W := by
    intro W on eb
    rw [← hR]
    dsimp only [ρ,ν]
    have e0 := eb.cell0
    have e1 := eb.cell1
    have f0 := eb.free 0
    have f1 := eb.free 1
    refine wpAnyIn_ready (rs := [1,2,7]) (by kernel_rfl) (by simp) (AllReadyIn.cons rfl (fun K hK => ?_) (AllReadyIn.cons rfl (fun K hK => ?_) (AllReadyIn.cons rfl (fun K hK => ?_) (AllReadyIn.nil))))
    · go_simp; exact hK _ _ (U _ _ _ _ (H19 W on eb))
    · go_simp; exact hK _ _ (U _ _ _ _ (H34 W on eb))
    · go_simp
      gi_wp2_with (refine ⟨trivial,?_⟩; gi_at_call 46; refine (callsIn_wide.2 (wordsOf_zero W)).mono ?_; rintro e W2 ⟨g,rfl,hgl,hb⟩)
      exact U _ _ _ _ (H36 W2 (on.below hb) g (eb.below hb eb.lt))
  have H38 : ∀ (W : World) (on : Oe W0 W e) (eb : EBox W e (A0) (.slice (some ⟨gb,0,none⟩) 1 cb)) (v6 : Vx W p6 0),R 13 #[Ix,Ox,Ox,Ox,Ox,Ox,Ox,Ox,Ox,Ox,Ox,Ox,Ox,Ox] { tmps := #[ρ e,v1,v2,v3,v4,v5,ρ p6,v7,v8,v9,v10,v11,v12,v13,v14,v15,v16,v17,v18,v19,v20,v21,v22,v23,v24,v25,v26,v27,v28,v29,v30,v31,v32,v33,v34,v35,v36,v37,v38,v39,v40,v41,v42,v43,v44,v45,v46,v47,v48,v49,v50,v51,v52,v53,ρ e,v55,v56,v57,v58,v59,v60,v61,v62,v63,v64,v65,v66,v67,v68,v69,v70,v71,v72,v73],defers := [] } W := by
    intro W on eb v6
    rw [← hR]
    dsimp only [ρ]
    have e0 := eb.cell0
    have e1 := eb.cell1
    have f0 := eb.free 0
    have f1 := eb.free 1
    have g0 := v6.c0
    have g1 := v6.c1
    refine wpAnyIn_ready (rs := [1,2,6]) (by kernel_rfl) (by simp) (AllReadyIn.cons rfl (fun K hK => ?_) (AllReadyIn.cons rfl (fun K hK => ?_) (AllReadyIn.cons rfl (fun K hK => ?_) (AllReadyIn.nil))))
    · go_simp; exact hK _ _ (U _ _ _ _ (H20 W on eb v6))
    · go_simp; exact hK _ _ (U _ _ _ _ (H35 W on eb v6))
    · go_simp; exact hK _ _ (U _ _ _ _ (H37 W on eb))
  have H39 : ∀ (W : World) (on : Oe W0 W e) (g : Nat) (eb : EBox W e (A0) (.slice (some ⟨gb,0,none⟩) 1 cb)) ,R 7 #[Ox,Ix,Ix,Ix,Ix,Ix,Ix,Ix,Ox,Ox,Ox,Ox,Ox,Ox] { tmps := #[ρ e,v1,v2,v3,v4,v5,ρ p6,v7,v8,v9,v10,v11,v12,v13,v14,v15,v16,v17,v18,v19,v20,v21,v22,v23,v24,v25,v26,v27,v28,v29,v30,v31,v32,v33,v34,v35,v36,v37,v38,v39,v40,v41,v42,v43,v44,v45,v46,v47,v48,v49,v50,v51,v52,v53,v54,ρ e,ρ e,ρ e,.pointer (some ⟨e,1,none⟩),ς gb 1 cb,ν 0,ς g 0 0,v62,v63,v64,v65,v66,v67,v68,v69,v70,v71,v72,v73],defers := [] } W := by
    intro W on g eb
    rw [← hR]
    dsimp only [ρ,ς,ν]
    have e0 := eb.cell0
    have e1 := eb.cell1
    have f0 := eb.free 0
    have f1 := eb.free 1
    refine wpAnyIn_ready (rs := [0]) (by kernel_rfl) (by simp) (AllReadyIn.cons rfl (fun K hK => ?_) (AllReadyIn.nil))
    · go_simp; exact hK _ _ (U _ _ _ _ (H6 W on g eb))
  have H40 : ∀ (W : World) (on : Oe W0 W e) (eb : EBox W e (A0) (.slice (some ⟨gb,0,none⟩) 1 cb)) ,R 8 #[Ox,Ix,Ix,Ix,Ix,Ix,Ix,Ox,Ox,Ox,Ox,Ox,Ox,Ox] { tmps := #[ρ e,v1,v2,v3,v4,v5,ρ p6,v7,v8,v9,v10,v11,v12,v13,v14,v15,v16,v17,v18,v19,v20,v21,v22,v23,v24,v25,v26,v27,v28,v29,v30,v31,v32,v33,v34,v35,v36,v37,v38,v39,v40,v41,v42,v43,v44,v45,v46,v47,v48,v49,v50,v51,v52,v53,v54,ρ e,ρ e,ρ e,.pointer (some ⟨e,1,none⟩),ς gb 1 cb,ν 0,v61,v62,v63,v64,v65,v66,v67,v68,v69,v70,v71,v72,v73],defers := [] } W := by
    intro W on eb
    rw [← hR]
    dsimp only [ρ,ς,ν]
    have e0 := eb.cell0
    have e1 := eb.cell1
    have f0 := eb.free 0
    have f1 := eb.free 1
    refine wpAnyIn_ready (rs := [0,7]) (by kernel_rfl) (by simp) (AllReadyIn.cons rfl (fun K hK => ?_) (AllReadyIn.cons rfl (fun K hK => ?_) (AllReadyIn.nil)))
    · go_simp; exact hK _ _ (U _ _ _ _ (H7 W on eb))
    · go_simp
      gi_wp2_with (refine ⟨trivial,?_⟩; gi_at_call 46; refine (callsIn_wide.2 (wordsOf_zero W)).mono ?_; rintro e W2 ⟨g,rfl,hgl,hb⟩)
      exact U _ _ _ _ (H39 W2 (on.below hb) g (eb.below hb eb.lt))
  have H41 : ∀ (W : World) (on : Oe W0 W e) (eb : EBox W e (A0) (.slice (some ⟨gb,0,none⟩) 1 cb)) (v6 : Vx W p6 0),R 9 #[Ox,Ix,Ix,Ix,Ix,Ix,Ox,Ox,Ox,Ox,Ox,Ox,Ox,Ox] { tmps := #[ρ e,v1,v2,v3,v4,v5,ρ p6,v7,v8,v9,v10,v11,v12,v13,v14,v15,v16,v17,v18,v19,v20,v21,v22,v23,v24,v25,v26,v27,v28,v29,v30,v31,v32,v33,v34,v35,v36,v37,v38,v39,v40,v41,v42,v43,v44,v45,v46,v47,v48,v49,v50,v51,v52,v53,v54,ρ e,ρ e,ρ e,.pointer (some ⟨e,1,none⟩),ς gb 1 cb,v60,v61,v62,v63,v64,v65,v66,v67,v68,v69,v70,v71,v72,v73],defers := [] } W := by
    intro W on eb v6
    rw [← hR]
    dsimp only [ρ,ς]
    have e0 := eb.cell0
    have e1 := eb.cell1
    have f0 := eb.free 0
    have f1 := eb.free 1
    have g0 := v6.c0
    have g1 := v6.c1
    refine wpAnyIn_ready (rs := [0,6]) (by kernel_rfl) (by simp) (AllReadyIn.cons rfl (fun K hK => ?_) (AllReadyIn.cons rfl (fun K hK => ?_) (AllReadyIn.nil)))
    · go_simp; exact hK _ _ (U _ _ _ _ (H8 W on eb v6))
    · go_simp; exact hK _ _ (U _ _ _ _ (H40 W on eb))
  have H42 : ∀ (W : World) (on : Oe W0 W e) (g : Nat) (eb : EBox W e (A0) (.slice (some ⟨gb,0,none⟩) 1 cb)) ,R 8 #[Ox,Ix,Ix,Ix,Ix,Ox,Ix,Ix,Ox,Ox,Ox,Ox,Ox,Ox] { tmps := #[ρ e,v1,v2,v3,v4,v5,ρ p6,v7,v8,v9,v10,v11,v12,v13,v14,v15,v16,v17,v18,v19,v20,v21,v22,v23,v24,v25,v26,v27,v28,v29,v30,v31,v32,v33,v34,v35,v36,v37,v38,v39,v40,v41,v42,v43,v44,v45,v46,v47,v48,v49,v50,v51,v52,v53,v54,ρ e,ρ e,ρ e,.pointer (some ⟨e,1,none⟩),v59,ν 0,ς g 0 0,v62,v63,v64,v65,v66,v67,v68,v69,v70,v71,v72,v73],defers := [] } W := by
    intro W on g eb
    rw [← hR]
    dsimp only [ρ,ς,ν]
    have e0 := eb.cell0
    have e1 := eb.cell1
    have f0 := eb.free 0
    have f1 := eb.free 1
    refine wpAnyIn_ready (rs := [0,5]) (by kernel_rfl) (by simp) (AllReadyIn.cons rfl (fun K hK => ?_) (AllReadyIn.cons rfl (fun K hK => ?_) (AllReadyIn.nil)))
    · go_simp; exact hK _ _ (U _ _ _ _ (H9 W on g eb))
    · go_simp; exact hK _ _ (U _ _ _ _ (H39 W on g eb))
  have H43 : ∀ (W : World) (on : Oe W0 W e) (eb : EBox W e (A0) (.slice (some ⟨gb,0,none⟩) 1 cb)) ,R 9 #[Ox,Ix,Ix,Ix,Ix,Ox,Ix,Ox,Ox,Ox,Ox,Ox,Ox,Ox] { tmps := #[ρ e,v1,v2,v3,v4,v5,ρ p6,v7,v8,v9,v10,v11,v12,v13,v14,v15,v16,v17,v18,v19,v20,v21,v22,v23,v24,v25,v26,v27,v28,v29,v30,v31,v32,v33,v34,v35,v36,v37,v38,v39,v40,v41,v42,v43,v44,v45,v46,v47,v48,v49,v50,v51,v52,v53,v54,ρ e,ρ e,ρ e,.pointer (some ⟨e,1,none⟩),v59,ν 0,v61,v62,v63,v64,v65,v66,v67,v68,v69,v70,v71,v72,v73],defers := [] } W := by
    intro W on eb
    rw [← hR]
    dsimp only [ρ,ν]
    have e0 := eb.cell0
    have e1 := eb.cell1
    have f0 := eb.free 0
    have f1 := eb.free 1
    refine wpAnyIn_ready (rs := [0,5,7]) (by kernel_rfl) (by simp) (AllReadyIn.cons rfl (fun K hK => ?_) (AllReadyIn.cons rfl (fun K hK => ?_) (AllReadyIn.cons rfl (fun K hK => ?_) (AllReadyIn.nil))))
    · go_simp; exact hK _ _ (U _ _ _ _ (H10 W on eb))
    · go_simp; exact hK _ _ (U _ _ _ _ (H40 W on eb))
    · go_simp
      gi_wp2_with (refine ⟨trivial,?_⟩; gi_at_call 46; refine (callsIn_wide.2 (wordsOf_zero W)).mono ?_; rintro e W2 ⟨g,rfl,hgl,hb⟩)
      exact U _ _ _ _ (H42 W2 (on.below hb) g (eb.below hb eb.lt))
  have H44 : ∀ (W : World) (on : Oe W0 W e) (eb : EBox W e (A0) (.slice (some ⟨gb,0,none⟩) 1 cb)) (v6 : Vx W p6 0),R 10 #[Ox,Ix,Ix,Ix,Ix,Ox,Ox,Ox,Ox,Ox,Ox,Ox,Ox,Ox] { tmps := #[ρ e,v1,v2,v3,v4,v5,ρ p6,v7,v8,v9,v10,v11,v12,v13,v14,v15,v16,v17,v18,v19,v20,v21,v22,v23,v24,v25,v26,v27,v28,v29,v30,v31,v32,v33,v34,v35,v36,v37,v38,v39,v40,v41,v42,v43,v44,v45,v46,v47,v48,v49,v50,v51,v52,v53,v54,ρ e,ρ e,ρ e,.pointer (some ⟨e,1,none⟩),v59,v60,v61,v62,v63,v64,v65,v66,v67,v68,v69,v70,v71,v72,v73],defers := [] } W := by
    intro W on eb v6
    rw [← hR]
    dsimp only [ρ]
    have e0 := eb.cell0
    have e1 := eb.cell1
    have f0 := eb.free 0
    have f1 := eb.free 1
    have g0 := v6.c0
    have g1 := v6.c1
    refine wpAnyIn_ready (rs := [0,5,6]) (by kernel_rfl) (by simp) (AllReadyIn.cons rfl (fun K hK => ?_) (AllReadyIn.cons rfl (fun K hK => ?_) (AllReadyIn.cons rfl (fun K hK => ?_) (AllReadyIn.nil))))
    · go_simp; exact hK _ _ (U _ _ _ _ (H11 W on eb v6))
    · go_simp; exact hK _ _ (U _ _ _ _ (H41 W on eb v6))
    · go_simp; exact hK _ _ (U _ _ _ _ (H43 W on eb))
  have H45 : ∀ (W : World) (on : Oe W0 W e) (g : Nat) (eb : EBox W e (A0) (.slice (some ⟨gb,0,none⟩) 1 cb)) ,R 9 #[Ox,Ix,Ix,Ix,Ox,Ox,Ix,Ix,Ox,Ox,Ox,Ox,Ox,Ox] { tmps := #[ρ e,v1,v2,v3,v4,v5,ρ p6,v7,v8,v9,v10,v11,v12,v13,v14,v15,v16,v17,v18,v19,v20,v21,v22,v23,v24,v25,v26,v27,v28,v29,v30,v31,v32,v33,v34,v35,v36,v37,v38,v39,v40,v41,v42,v43,v44,v45,v46,v47,v48,v49,v50,v51,v52,v53,v54,ρ e,ρ e,ρ e,v58,v59,ν 0,ς g 0 0,v62,v63,v64,v65,v66,v67,v68,v69,v70,v71,v72,v73],defers := [] } W := by
    intro W on g eb
    rw [← hR]
    dsimp only [ρ,ς,ν]
    have e0 := eb.cell0
    have e1 := eb.cell1
    have f0 := eb.free 0
    have f1 := eb.free 1
    refine wpAnyIn_ready (rs := [0,4]) (by kernel_rfl) (by simp) (AllReadyIn.cons rfl (fun K hK => ?_) (AllReadyIn.cons rfl (fun K hK => ?_) (AllReadyIn.nil)))
    · go_simp; exact hK _ _ (U _ _ _ _ (H12 W on g eb))
    · go_simp; exact hK _ _ (U _ _ _ _ (H42 W on g eb))
  have H46 : ∀ (W : World) (on : Oe W0 W e) (eb : EBox W e (A0) (.slice (some ⟨gb,0,none⟩) 1 cb)) ,R 10 #[Ox,Ix,Ix,Ix,Ox,Ox,Ix,Ox,Ox,Ox,Ox,Ox,Ox,Ox] { tmps := #[ρ e,v1,v2,v3,v4,v5,ρ p6,v7,v8,v9,v10,v11,v12,v13,v14,v15,v16,v17,v18,v19,v20,v21,v22,v23,v24,v25,v26,v27,v28,v29,v30,v31,v32,v33,v34,v35,v36,v37,v38,v39,v40,v41,v42,v43,v44,v45,v46,v47,v48,v49,v50,v51,v52,v53,v54,ρ e,ρ e,ρ e,v58,v59,ν 0,v61,v62,v63,v64,v65,v66,v67,v68,v69,v70,v71,v72,v73],defers := [] } W := by
    intro W on eb
    rw [← hR]
    dsimp only [ρ,ν]
    have e0 := eb.cell0
    have e1 := eb.cell1
    have f0 := eb.free 0
    have f1 := eb.free 1
    refine wpAnyIn_ready (rs := [0,4,7]) (by kernel_rfl) (by simp) (AllReadyIn.cons rfl (fun K hK => ?_) (AllReadyIn.cons rfl (fun K hK => ?_) (AllReadyIn.cons rfl (fun K hK => ?_) (AllReadyIn.nil))))
    · go_simp; exact hK _ _ (U _ _ _ _ (H13 W on eb))
    · go_simp; exact hK _ _ (U _ _ _ _ (H43 W on eb))
    · go_simp
      gi_wp2_with (refine ⟨trivial,?_⟩; gi_at_call 46; refine (callsIn_wide.2 (wordsOf_zero W)).mono ?_; rintro e W2 ⟨g,rfl,hgl,hb⟩)
      exact U _ _ _ _ (H45 W2 (on.below hb) g (eb.below hb eb.lt))
  have H47 : ∀ (W : World) (on : Oe W0 W e) (eb : EBox W e (A0) (.slice (some ⟨gb,0,none⟩) 1 cb)) (v6 : Vx W p6 0),R 11 #[Ox,Ix,Ix,Ix,Ox,Ox,Ox,Ox,Ox,Ox,Ox,Ox,Ox,Ox] { tmps := #[ρ e,v1,v2,v3,v4,v5,ρ p6,v7,v8,v9,v10,v11,v12,v13,v14,v15,v16,v17,v18,v19,v20,v21,v22,v23,v24,v25,v26,v27,v28,v29,v30,v31,v32,v33,v34,v35,v36,v37,v38,v39,v40,v41,v42,v43,v44,v45,v46,v47,v48,v49,v50,v51,v52,v53,v54,ρ e,ρ e,ρ e,v58,v59,v60,v61,v62,v63,v64,v65,v66,v67,v68,v69,v70,v71,v72,v73],defers := [] } W := by
    intro W on eb v6
    rw [← hR]
    dsimp only [ρ]
    have e0 := eb.cell0
    have e1 := eb.cell1
    have f0 := eb.free 0
    have f1 := eb.free 1
    have g0 := v6.c0
    have g1 := v6.c1
    refine wpAnyIn_ready (rs := [0,4,6]) (by kernel_rfl) (by simp) (AllReadyIn.cons rfl (fun K hK => ?_) (AllReadyIn.cons rfl (fun K hK => ?_) (AllReadyIn.cons rfl (fun K hK => ?_) (AllReadyIn.nil))))
    · go_simp; exact hK _ _ (U _ _ _ _ (H14 W on eb v6))
    · go_simp; exact hK _ _ (U _ _ _ _ (H44 W on eb v6))
    · go_simp; exact hK _ _ (U _ _ _ _ (H46 W on eb))
  have H48 : ∀ (W : World) (on : Oe W0 W e) (g : Nat) (eb : EBox W e (A0) (.slice (some ⟨gb,0,none⟩) 1 cb)) ,R 10 #[Ox,Ix,Ix,Ox,Ox,Ox,Ix,Ix,Ox,Ox,Ox,Ox,Ox,Ox] { tmps := #[ρ e,v1,v2,v3,v4,v5,ρ p6,v7,v8,v9,v10,v11,v12,v13,v14,v15,v16,v17,v18,v19,v20,v21,v22,v23,v24,v25,v26,v27,v28,v29,v30,v31,v32,v33,v34,v35,v36,v37,v38,v39,v40,v41,v42,v43,v44,v45,v46,v47,v48,v49,v50,v51,v52,v53,v54,ρ e,ρ e,v57,v58,v59,ν 0,ς g 0 0,v62,v63,v64,v65,v66,v67,v68,v69,v70,v71,v72,v73],defers := [] } W := by
    intro W on g eb
    rw [← hR]
    dsimp only [ρ,ς,ν]
    have e0 := eb.cell0
    have e1 := eb.cell1
    have f0 := eb.free 0
    have f1 := eb.free 1
    refine wpAnyIn_ready (rs := [0,3]) (by kernel_rfl) (by simp) (AllReadyIn.cons rfl (fun K hK => ?_) (AllReadyIn.cons rfl (fun K hK => ?_) (AllReadyIn.nil)))
    · go_simp; exact hK _ _ (U _ _ _ _ (H15 W on g eb))
    · go_simp; exact hK _ _ (U _ _ _ _ (H45 W on g eb))
  have H49 : ∀ (W : World) (on : Oe W0 W e) (eb : EBox W e (A0) (.slice (some ⟨gb,0,none⟩) 1 cb)) ,R 11 #[Ox,Ix,Ix,Ox,Ox,Ox,Ix,Ox,Ox,Ox,Ox,Ox,Ox,Ox] { tmps := #[ρ e,v1,v2,v3,v4,v5,ρ p6,v7,v8,v9,v10,v11,v12,v13,v14,v15,v16,v17,v18,v19,v20,v21,v22,v23,v24,v25,v26,v27,v28,v29,v30,v31,v32,v33,v34,v35,v36,v37,v38,v39,v40,v41,v42,v43,v44,v45,v46,v47,v48,v49,v50,v51,v52,v53,v54,ρ e,ρ e,v57,v58,v59,ν 0,v61,v62,v63,v64,v65,v66,v67,v68,v69,v70,v71,v72,v73],defers := [] } W := by
    intro W on eb
    rw [← hR]
    dsimp only [ρ,ν]
    have e0 := eb.cell0
    have e1 := eb.cell1
    have f0 := eb.free 0
    have f1 := eb.free 1
    refine wpAnyIn_ready (rs := [0,3,7]) (by kernel_rfl) (by simp) (AllReadyIn.cons rfl (fun K hK => ?_) (AllReadyIn.cons rfl (fun K hK => ?_) (AllReadyIn.cons rfl (fun K hK => ?_) (AllReadyIn.nil))))
    · go_simp; exact hK _ _ (U _ _ _ _ (H16 W on eb))
    · go_simp; exact hK _ _ (U _ _ _ _ (H46 W on eb))
    · go_simp
      gi_wp2_with (refine ⟨trivial,?_⟩; gi_at_call 46; refine (callsIn_wide.2 (wordsOf_zero W)).mono ?_; rintro e W2 ⟨g,rfl,hgl,hb⟩)
      exact U _ _ _ _ (H48 W2 (on.below hb) g (eb.below hb eb.lt))
  have H50 : ∀ (W : World) (on : Oe W0 W e) (eb : EBox W e (A0) (.slice (some ⟨gb,0,none⟩) 1 cb)) (v6 : Vx W p6 0),R 12 #[Ox,Ix,Ix,Ox,Ox,Ox,Ox,Ox,Ox,Ox,Ox,Ox,Ox,Ox] { tmps := #[ρ e,v1,v2,v3,v4,v5,ρ p6,v7,v8,v9,v10,v11,v12,v13,v14,v15,v16,v17,v18,v19,v20,v21,v22,v23,v24,v25,v26,v27,v28,v29,v30,v31,v32,v33,v34,v35,v36,v37,v38,v39,v40,v41,v42,v43,v44,v45,v46,v47,v48,v49,v50,v51,v52,v53,v54,ρ e,ρ e,v57,v58,v59,v60,v61,v62,v63,v64,v65,v66,v67,v68,v69,v70,v71,v72,v73],defers := [] } W := by
    intro W on eb v6
    rw [← hR]
    dsimp only [ρ]
    have e0 := eb.cell0
    have e1 := eb.cell1
    have f0 := eb.free 0
    have f1 := eb.free 1
    have g0 := v6.c0
    have g1 := v6.c1
    refine wpAnyIn_ready (rs := [0,3,6]) (by kernel_rfl) (by simp) (AllReadyIn.cons rfl (fun K hK => ?_) (AllReadyIn.cons rfl (fun K hK => ?_) (AllReadyIn.cons rfl (fun K hK => ?_) (AllReadyIn.nil))))
    · go_simp; exact hK _ _ (U _ _ _ _ (H17 W on eb v6))
    · go_simp; exact hK _ _ (U _ _ _ _ (H47 W on eb v6))
    · go_simp; exact hK _ _ (U _ _ _ _ (H49 W on eb))
  have H51 : ∀ (W : World) (on : Oe W0 W e) (g : Nat) (eb : EBox W e (A0) (.slice (some ⟨gb,0,none⟩) 1 cb)) ,R 11 #[Ox,Ix,Ox,Ox,Ox,Ox,Ix,Ix,Ox,Ox,Ox,Ox,Ox,Ox] { tmps := #[ρ e,v1,v2,v3,v4,v5,ρ p6,v7,v8,v9,v10,v11,v12,v13,v14,v15,v16,v17,v18,v19,v20,v21,v22,v23,v24,v25,v26,v27,v28,v29,v30,v31,v32,v33,v34,v35,v36,v37,v38,v39,v40,v41,v42,v43,v44,v45,v46,v47,v48,v49,v50,v51,v52,v53,v54,ρ e,v56,v57,v58,v59,ν 0,ς g 0 0,v62,v63,v64,v65,v66,v67,v68,v69,v70,v71,v72,v73],defers := [] } W := by
    intro W on g eb
    rw [← hR]
    dsimp only [ρ,ς,ν]
    have e0 := eb.cell0
    have e1 := eb.cell1
    have f0 := eb.free 0
    have f1 := eb.free 1
    refine wpAnyIn_ready (rs := [0,2]) (by kernel_rfl) (by simp) (AllReadyIn.cons rfl (fun K hK => ?_) (AllReadyIn.cons rfl (fun K hK => ?_) (AllReadyIn.nil)))
    · go_simp; exact hK _ _ (U _ _ _ _ (H18 W on g eb))
    · go_simp; exact hK _ _ (U _ _ _ _ (H48 W on g eb))
  have H52 : ∀ (W : World) (on : Oe W0 W e) (eb : EBox W e (A0) (.slice (some ⟨gb,0,none⟩) 1 cb)) ,R 12 #[Ox,Ix,Ox,Ox,Ox,Ox,Ix,Ox,Ox,Ox,Ox,Ox,Ox,Ox] { tmps := #[ρ e,v1,v2,v3,v4,v5,ρ p6,v7,v8,v9,v10,v11,v12,v13,v14,v15,v16,v17,v18,v19,v20,v21,v22,v23,v24,v25,v26,v27,v28,v29,v30,v31,v32,v33,v34,v35,v36,v37,v38,v39,v40,v41,v42,v43,v44,v45,v46,v47,v48,v49,v50,v51,v52,v53,v54,ρ e,v56,v57,v58,v59,ν 0,v61,v62,v63,v64,v65,v66,v67,v68,v69,v70,v71,v72,v73],defers := [] } W := by
    intro W on eb
    rw [← hR]
    dsimp only [ρ,ν]
    have e0 := eb.cell0
    have e1 := eb.cell1
    have f0 := eb.free 0
    have f1 := eb.free 1
    refine wpAnyIn_ready (rs := [0,2,7]) (by kernel_rfl) (by simp) (AllReadyIn.cons rfl (fun K hK => ?_) (AllReadyIn.cons rfl (fun K hK => ?_) (AllReadyIn.cons rfl (fun K hK => ?_) (AllReadyIn.nil))))
    · go_simp; exact hK _ _ (U _ _ _ _ (H19 W on eb))
    · go_simp; exact hK _ _ (U _ _ _ _ (H49 W on eb))
    · go_simp
      gi_wp2_with (refine ⟨trivial,?_⟩; gi_at_call 46; refine (callsIn_wide.2 (wordsOf_zero W)).mono ?_; rintro e W2 ⟨g,rfl,hgl,hb⟩)
      exact U _ _ _ _ (H51 W2 (on.below hb) g (eb.below hb eb.lt))
  have H53 : ∀ (W : World) (on : Oe W0 W e) (eb : EBox W e (A0) (.slice (some ⟨gb,0,none⟩) 1 cb)) (v6 : Vx W p6 0),R 13 #[Ox,Ix,Ox,Ox,Ox,Ox,Ox,Ox,Ox,Ox,Ox,Ox,Ox,Ox] { tmps := #[ρ e,v1,v2,v3,v4,v5,ρ p6,v7,v8,v9,v10,v11,v12,v13,v14,v15,v16,v17,v18,v19,v20,v21,v22,v23,v24,v25,v26,v27,v28,v29,v30,v31,v32,v33,v34,v35,v36,v37,v38,v39,v40,v41,v42,v43,v44,v45,v46,v47,v48,v49,v50,v51,v52,v53,v54,ρ e,v56,v57,v58,v59,v60,v61,v62,v63,v64,v65,v66,v67,v68,v69,v70,v71,v72,v73],defers := [] } W := by
    intro W on eb v6
    rw [← hR]
    dsimp only [ρ]
    have e0 := eb.cell0
    have e1 := eb.cell1
    have f0 := eb.free 0
    have f1 := eb.free 1
    have g0 := v6.c0
    have g1 := v6.c1
    refine wpAnyIn_ready (rs := [0,2,6]) (by kernel_rfl) (by simp) (AllReadyIn.cons rfl (fun K hK => ?_) (AllReadyIn.cons rfl (fun K hK => ?_) (AllReadyIn.cons rfl (fun K hK => ?_) (AllReadyIn.nil))))
    · go_simp; exact hK _ _ (U _ _ _ _ (H20 W on eb v6))
    · go_simp; exact hK _ _ (U _ _ _ _ (H50 W on eb v6))
    · go_simp; exact hK _ _ (U _ _ _ _ (H52 W on eb))
  have H54 : ∀ (W : World) (on : Oe W0 W e) (g : Nat) (eb : EBox W e (A0) (.slice (some ⟨gb,0,none⟩) 1 cb)) ,R 8 #[Ox,Ox,Ix,Ix,Ix,Ix,Ix,Ix,Ox,Ox,Ox,Ox,Ox,Ox] { tmps := #[ρ e,v1,v2,v3,v4,v5,ρ p6,v7,v8,v9,v10,v11,v12,v13,v14,v15,v16,v17,v18,v19,v20,v21,v22,v23,v24,v25,v26,v27,v28,v29,v30,v31,v32,v33,v34,v35,v36,v37,v38,v39,v40,v41,v42,v43,v44,v45,v46,v47,v48,v49,v50,v51,v52,v53,v54,v55,ρ e,ρ e,.pointer (some ⟨e,1,none⟩),ς gb 1 cb,ν 0,ς g 0 0,v62,v63,v64,v65,v66,v67,v68,v69,v70,v71,v72,v73],defers := [] } W := by
    intro W on g eb
    rw [← hR]
    dsimp only [ρ,ς,ν]
    have e0 := eb.cell0
    have e1 := eb.cell1
    have f0 := eb.free 0
    have f1 := eb.free 1
    refine wpAnyIn_ready (rs := [0,1]) (by kernel_rfl) (by simp) (AllReadyIn.cons rfl (fun K hK => ?_) (AllReadyIn.cons rfl (fun K hK => ?_) (AllReadyIn.nil)))
    · go_simp; exact hK _ _ (U _ _ _ _ (H24 W on g eb))
    · go_simp; exact hK _ _ (U _ _ _ _ (H39 W on g eb))
  have H55 : ∀ (W : World) (on : Oe W0 W e) (eb : EBox W e (A0) (.slice (some ⟨gb,0,none⟩) 1 cb)) ,R 9 #[Ox,Ox,Ix,Ix,Ix,Ix,Ix,Ox,Ox,Ox,Ox,Ox,Ox,Ox] { tmps := #[ρ e,v1,v2,v3,v4,v5,ρ p6,v7,v8,v9,v10,v11,v12,v13,v14,v15,v16,v17,v18,v19,v20,v21,v22,v23,v24,v25,v26,v27,v28,v29,v30,v31,v32,v33,v34,v35,v36,v37,v38,v39,v40,v41,v42,v43,v44,v45,v46,v47,v48,v49,v50,v51,v52,v53,v54,v55,ρ e,ρ e,.pointer (some ⟨e,1,none⟩),ς gb 1 cb,ν 0,v61,v62,v63,v64,v65,v66,v67,v68,v69,v70,v71,v72,v73],defers := [] } W := by
    intro W on eb
    rw [← hR]
    dsimp only [ρ,ς,ν]
    have e0 := eb.cell0
    have e1 := eb.cell1
    have f0 := eb.free 0
    have f1 := eb.free 1
    refine wpAnyIn_ready (rs := [0,1,7]) (by kernel_rfl) (by simp) (AllReadyIn.cons rfl (fun K hK => ?_) (AllReadyIn.cons rfl (fun K hK => ?_) (AllReadyIn.cons rfl (fun K hK => ?_) (AllReadyIn.nil))))
    · go_simp; exact hK _ _ (U _ _ _ _ (H25 W on eb))
    · go_simp; exact hK _ _ (U _ _ _ _ (H40 W on eb))
    · go_simp
      gi_wp2_with (refine ⟨trivial,?_⟩; gi_at_call 46; refine (callsIn_wide.2 (wordsOf_zero W)).mono ?_; rintro e W2 ⟨g,rfl,hgl,hb⟩)
      exact U _ _ _ _ (H54 W2 (on.below hb) g (eb.below hb eb.lt))
  have H56 : ∀ (W : World) (on : Oe W0 W e) (eb : EBox W e (A0) (.slice (some ⟨gb,0,none⟩) 1 cb)) (v6 : Vx W p6 0),R 10 #[Ox,Ox,Ix,Ix,Ix,Ix,Ox,Ox,Ox,Ox,Ox,Ox,Ox,Ox] { tmps := #[ρ e,v1,v2,v3,v4,v5,ρ p6,v7,v8,v9,v10,v11,v12,v13,v14,v15,v16,v17,v18,v19,v20,v21,v22,v23,v24,v25,v26,v27,v28,v29,v30,v31,v32,v33,v34,v35,v36,v37,v38,v39,v40,v41,v42,v43,v44,v45,v46,v47,v48,v49,v50,v51,v52,v53,v54,v55,ρ e,ρ e,.pointer (some ⟨e,1,none⟩),ς gb 1 cb,v60,v61,v62,v63,v64,v65,v66,v67,v68,v69,v70,v71,v72,v73],defers := [] } W := by
    intro W on eb v6
    rw [← hR]
    dsimp only [ρ,ς]
    have e0 := eb.cell0
    have e1 := eb.cell1
    have f0 := eb.free 0
    have f1 := eb.free 1
    have g0 := v6.c0
    have g1 := v6.c1
    refine wpAnyIn_ready (rs := [0,1,6]) (by kernel_rfl) (by simp) (AllReadyIn.cons rfl (fun K hK => ?_) (AllReadyIn.cons rfl (fun K hK => ?_) (AllReadyIn.cons rfl (fun K hK => ?_) (AllReadyIn.nil))))
    · go_simp; exact hK _ _ (U _ _ _ _ (H26 W on eb v6))
    · go_simp; exact hK _ _ (U _ _ _ _ (H41 W on eb v6))
    · go_simp; exact hK _ _ (U _ _ _ _ (H55 W on eb))
  have H57 : ∀ (W : World) (on : Oe W0 W e) (g : Nat) (eb : EBox W e (A0) (.slice (some ⟨gb,0,none⟩) 1 cb)) ,R 9 #[Ox,Ox,Ix,Ix,Ix,Ox,Ix,Ix,Ox,Ox,Ox,Ox,Ox,Ox] { tmps := #[ρ e,v1,v2,v3,v4,v5,ρ p6,v7,v8,v9,v10,v11,v12,v13,v14,v15,v16,v17,v18,v19,v20,v21,v22,v23,v24,v25,v26,v27,v28,v29,v30,v31,v32,v33,v34,v35,v36,v37,v38,v39,v40,v41,v42,v43,v44,v45,v46,v47,v48,v49,v50,v51,v52,v53,v54,v55,ρ e,ρ e,.pointer (some ⟨e,1,none⟩),v59,ν 0,ς g 0 0,v62,v63,v64,v65,v66,v67,v68,v69,v70,v71,v72,v73],defers := [] } W := by
    intro W on g eb
    rw [← hR]
    dsimp only [ρ,ς,ν]
    have e0 := eb.cell0
    have e1 := eb.cell1
    have f0 := eb.free 0
    have f1 := eb.free 1
    refine wpAnyIn_ready (rs := [0,1,5]) (by kernel_rfl) (by simp) (AllReadyIn.cons rfl (fun K hK => ?_) (AllReadyIn.cons rfl (fun K hK => ?_) (AllReadyIn.cons rfl (fun K hK => ?_) (AllReadyIn.nil))))
    · go_simp; exact hK _ _ (U _ _ _ _ (H27 W on g eb))
    · go_simp; exact hK _ _ (U _ _ _ _ (H42 W on g eb))
    · go_simp; exact hK _ _ (U _ _ _ _ (H54 W on g eb))
  have H58 : ∀ (W : World) (on : Oe W0 W e) (eb : EBox W e (A0) (.slice (some ⟨gb,0,none⟩) 1 cb)) ,R 10 #[Ox,Ox,Ix,Ix,Ix,Ox,Ix,Ox,Ox,Ox,Ox,Ox,Ox,Ox] { tmps := #[ρ e,v1,v2,v3,v4,v5,ρ p6,v7,v8,v9,v10,v11,v12,v13,v14,v15,v16,v17,v18,v19,v20,v21,v22,v23,v24,v25,v26,v27,v28,v29,v30,v31,v32,v33,v34,v35,v36,v37,v38,v39,v40,v41,v42,v43,v44,v45,v46,v47,v48,v49,v50,v51,v52,v53,v54,v55,ρ e,ρ e,.pointer (some ⟨e,1,none⟩),v59,ν 0,v61,v62,v63,v64,v65,v66,v67,v68,v69,v70,v71,v72,v73],defers := [] } W := by
    intro W on eb
    rw [← hR]
    dsimp only [ρ,ν]
    have e0 := eb.cell0
    have e1 := eb.cell1
    have f0 := eb.free 0
    have f1 := eb.free 1
    refine wpAnyIn_ready (rs := [0,1,5,7]) (by kernel_rfl) (by simp) (AllReadyIn.cons rfl (fun K hK => ?_) (AllReadyIn.cons rfl (fun K hK => ?_) (AllReadyIn.cons rfl (fun K hK => ?_) (AllReadyIn.cons rfl (fun K hK => ?_) (AllReadyIn.nil)))))
    · go_simp; exact hK _ _ (U _ _ _ _ (H28 W on eb))
    · go_simp; exact hK _ _ (U _ _ _ _ (H43 W on eb))
    · go_simp; exact hK _ _ (U _ _ _ _ (H55 W on eb))
    · go_simp
      gi_wp2_with (refine ⟨trivial,?_⟩; gi_at_call 46; refine (callsIn_wide.2 (wordsOf_zero W)).mono ?_; rintro e W2 ⟨g,rfl,hgl,hb⟩)
      exact U _ _ _ _ (H57 W2 (on.below hb) g (eb.below hb eb.lt))
  have H59 : ∀ (W : World) (on : Oe W0 W e) (eb : EBox W e (A0) (.slice (some ⟨gb,0,none⟩) 1 cb)) (v6 : Vx W p6 0),R 11 #[Ox,Ox,Ix,Ix,Ix,Ox,Ox,Ox,Ox,Ox,Ox,Ox,Ox,Ox] { tmps := #[ρ e,v1,v2,v3,v4,v5,ρ p6,v7,v8,v9,v10,v11,v12,v13,v14,v15,v16,v17,v18,v19,v20,v21,v22,v23,v24,v25,v26,v27,v28,v29,v30,v31,v32,v33,v34,v35,v36,v37,v38,v39,v40,v41,v42,v43,v44,v45,v46,v47,v48,v49,v50,v51,v52,v53,v54,v55,ρ e,ρ e,.pointer (some ⟨e,1,none⟩),v59,v60,v61,v62,v63,v64,v65,v66,v67,v68,v69,v70,v71,v72,v73],defers := [] } W := by
    intro W on eb v6
    rw [← hR]
    dsimp only [ρ]
    have e0 := eb.cell0
    have e1 := eb.cell1
    have f0 := eb.free 0
    have f1 := eb.free 1
    have g0 := v6.c0
    have g1 := v6.c1
    refine wpAnyIn_ready (rs := [0,1,5,6]) (by kernel_rfl) (by simp) (AllReadyIn.cons rfl (fun K hK => ?_) (AllReadyIn.cons rfl (fun K hK => ?_) (AllReadyIn.cons rfl (fun K hK => ?_) (AllReadyIn.cons rfl (fun K hK => ?_) (AllReadyIn.nil)))))
    · go_simp; exact hK _ _ (U _ _ _ _ (H29 W on eb v6))
    · go_simp; exact hK _ _ (U _ _ _ _ (H44 W on eb v6))
    · go_simp; exact hK _ _ (U _ _ _ _ (H56 W on eb v6))
    · go_simp; exact hK _ _ (U _ _ _ _ (H58 W on eb))
  have H60 : ∀ (W : World) (on : Oe W0 W e) (g : Nat) (eb : EBox W e (A0) (.slice (some ⟨gb,0,none⟩) 1 cb)) ,R 10 #[Ox,Ox,Ix,Ix,Ox,Ox,Ix,Ix,Ox,Ox,Ox,Ox,Ox,Ox] { tmps := #[ρ e,v1,v2,v3,v4,v5,ρ p6,v7,v8,v9,v10,v11,v12,v13,v14,v15,v16,v17,v18,v19,v20,v21,v22,v23,v24,v25,v26,v27,v28,v29,v30,v31,v32,v33,v34,v35,v36,v37,v38,v39,v40,v41,v42,v43,v44,v45,v46,v47,v48,v49,v50,v51,v52,v53,v54,v55,ρ e,ρ e,v58,v59,ν 0,ς g 0 0,v62,v63,v64,v65,v66,v67,v68,v69,v70,v71,v72,v73],defers := [] } W := by
    intro W on g eb
    rw [← hR]
    dsimp only [ρ,ς,ν]
    have e0 := eb.cell0
    have e1 := eb.cell1
    have f0 := eb.free 0
    have f1 := eb.free 1
    refine wpAnyIn_ready (rs := [0,1,4]) (by kernel_rfl) (by simp) (AllReadyIn.cons rfl (fun K hK => ?_) (AllReadyIn.cons rfl (fun K hK => ?_) (AllReadyIn.cons rfl (fun K hK => ?_) (AllReadyIn.nil))))
    · go_simp; exact hK _ _ (U _ _ _ _ (H30 W on g eb))
    · go_simp; exact hK _ _ (U _ _ _ _ (H45 W on g eb))
    · go_simp; exact hK _ _ (U _ _ _ _ (H57 W on g eb))
  have H61 : ∀ (W : World) (on : Oe W0 W e) (eb : EBox W e (A0) (.slice (some ⟨gb,0,none⟩) 1 cb)) ,R 11 #[Ox,Ox,Ix,Ix,Ox,Ox,Ix,Ox,Ox,Ox,Ox,Ox,Ox,Ox] { tmps := #[ρ e,v1,v2,v3,v4,v5,ρ p6,v7,v8,v9,v10,v11,v12,v13,v14,v15,v16,v17,v18,v19,v20,v21,v22,v23,v24,v25,v26,v27,v28,v29,v30,v31,v32,v33,v34,v35,v36,v37,v38,v39,v40,v41,v42,v43,v44,v45,v46,v47,v48,v49,v50,v51,v52,v53,v54,v55,ρ e,ρ e,v58,v59,ν 0,v61,v62,v63,v64,v65,v66,v67,v68,v69,v70,v71,v72,v73],defers := [] } W := by
    intro W on eb
    rw [← hR]
    dsimp only [ρ,ν]
    have e0 := eb.cell0
    have e1 := eb.cell1
    have f0 := eb.free 0
    have f1 := eb.free 1
    refine wpAnyIn_ready (rs := [0,1,4,7]) (by kernel_rfl) (by simp) (AllReadyIn.cons rfl (fun K hK => ?_) (AllReadyIn.cons rfl (fun K hK => ?_) (AllReadyIn.cons rfl (fun K hK => ?_) (AllReadyIn.cons rfl (fun K hK => ?_) (AllReadyIn.nil)))))
    · go_simp; exact hK _ _ (U _ _ _ _ (H31 W on eb))
    · go_simp; exact hK _ _ (U _ _ _ _ (H46 W on eb))
    · go_simp; exact hK _ _ (U _ _ _ _ (H58 W on eb))
    · go_simp
      gi_wp2_with (refine ⟨trivial,?_⟩; gi_at_call 46; refine (callsIn_wide.2 (wordsOf_zero W)).mono ?_; rintro e W2 ⟨g,rfl,hgl,hb⟩)
      exact U _ _ _ _ (H60 W2 (on.below hb) g (eb.below hb eb.lt))
  have H62 : ∀ (W : World) (on : Oe W0 W e) (eb : EBox W e (A0) (.slice (some ⟨gb,0,none⟩) 1 cb)) (v6 : Vx W p6 0),R 12 #[Ox,Ox,Ix,Ix,Ox,Ox,Ox,Ox,Ox,Ox,Ox,Ox,Ox,Ox] { tmps := #[ρ e,v1,v2,v3,v4,v5,ρ p6,v7,v8,v9,v10,v11,v12,v13,v14,v15,v16,v17,v18,v19,v20,v21,v22,v23,v24,v25,v26,v27,v28,v29,v30,v31,v32,v33,v34,v35,v36,v37,v38,v39,v40,v41,v42,v43,v44,v45,v46,v47,v48,v49,v50,v51,v52,v53,v54,v55,ρ e,ρ e,v58,v59,v60,v61,v62,v63,v64,v65,v66,v67,v68,v69,v70,v71,v72,v73],defers := [] } W := by
    intro W on eb v6
    rw [← hR]
    dsimp only [ρ]
    have e0 := eb.cell0
    have e1 := eb.cell1
    have f0 := eb.free 0
    have f1 := eb.free 1
    have g0 := v6.c0
    have g1 := v6.c1
    refine wpAnyIn_ready (rs := [0,1,4,6]) (by kernel_rfl) (by simp) (AllReadyIn.cons rfl (fun K hK => ?_) (AllReadyIn.cons rfl (fun K hK => ?_) (AllReadyIn.cons rfl (fun K hK => ?_) (AllReadyIn.cons rfl (fun K hK => ?_) (AllReadyIn.nil)))))
    · go_simp; exact hK _ _ (U _ _ _ _ (H32 W on eb v6))
    · go_simp; exact hK _ _ (U _ _ _ _ (H47 W on eb v6))
    · go_simp; exact hK _ _ (U _ _ _ _ (H59 W on eb v6))
    · go_simp; exact hK _ _ (U _ _ _ _ (H61 W on eb))
  have H63 : ∀ (W : World) (on : Oe W0 W e) (g : Nat) (eb : EBox W e (A0) (.slice (some ⟨gb,0,none⟩) 1 cb)) ,R 11 #[Ox,Ox,Ix,Ox,Ox,Ox,Ix,Ix,Ox,Ox,Ox,Ox,Ox,Ox] { tmps := #[ρ e,v1,v2,v3,v4,v5,ρ p6,v7,v8,v9,v10,v11,v12,v13,v14,v15,v16,v17,v18,v19,v20,v21,v22,v23,v24,v25,v26,v27,v28,v29,v30,v31,v32,v33,v34,v35,v36,v37,v38,v39,v40,v41,v42,v43,v44,v45,v46,v47,v48,v49,v50,v51,v52,v53,v54,v55,ρ e,v57,v58,v59,ν 0,ς g 0 0,v62,v63,v64,v65,v66,v67,v68,v69,v70,v71,v72,v73],defers := [] } W := by
    intro W on g eb
    rw [← hR]
    dsimp only [ρ,ς,ν]
    have e0 := eb.cell0
    have e1 := eb.cell1
    have f0 := eb.free 0
    have f1 := eb.free 1
    refine wpAnyIn_ready (rs := [0,1,3]) (by kernel_rfl) (by simp) (AllReadyIn.cons rfl (fun K hK => ?_) (AllReadyIn.cons rfl (fun K hK => ?_) (AllReadyIn.cons rfl (fun K hK => ?_) (AllReadyIn.nil))))
    · go_simp; exact hK _ _ (U _ _ _ _ (H33 W on g eb))
    · go_simp; exact hK _ _ (U _ _ _ _ (H48 W on g eb))
    · go_simp; exact hK _ _ (U _ _ _ _ (H60 W on g eb))
  have H64 : ∀ (W : World) (on : Oe W0 W e) (eb : EBox W e (A0) (.slice (some ⟨gb,0,none⟩) 1 cb)) ,R 12 #[Ox,Ox,Ix,Ox,Ox,Ox,Ix,Ox,Ox,Ox,Ox,Ox,Ox,Ox] { tmps := #[ρ e,v1,v2,v3,v4,v5,ρ p6,v7,v8,v9,v10,v11,v12,v13,v14,v15,v16,v17,v18,v19,v20,v21,v22,v23,v24,v25,v26,v27,v28,v29,v30,v31,v32,v33,v34,v35,v36,v37,v38,v39,v40,v41,v42,v43,v44,v45,v46,v47,v48,v49,v50,v51,v52,v53,v54,v55,ρ e,v57,v58,v59,ν 0,v61,v62,v63,v64,v65,v66,v67,v68,v69,v70,v71,v72,v73],defers := [] } W := by
    intro W on eb
    rw [← hR]
    dsimp only [ρ,ν]
    have e0 := eb.cell0
    have e1 := eb.cell1
    have f0 := eb.free 0
    have f1 := eb.free 1
    refine wpAnyIn_ready (rs := [0,1,3,7]) (by kernel_rfl) (by simp) (AllReadyIn.cons rfl (fun K hK => ?_) (AllReadyIn.cons rfl (fun K hK => ?_) (AllReadyIn.cons rfl (fun K hK => ?_) (AllReadyIn.cons rfl (fun K hK => ?_) (AllReadyIn.nil)))))
    · go_simp; exact hK _ _ (U _ _ _ _ (H34 W on eb))
    · go_simp; exact hK _ _ (U _ _ _ _ (H49 W on eb))
    · go_simp; exact hK _ _ (U _ _ _ _ (H61 W on eb))
    · go_simp
      gi_wp2_with (refine ⟨trivial,?_⟩; gi_at_call 46; refine (callsIn_wide.2 (wordsOf_zero W)).mono ?_; rintro e W2 ⟨g,rfl,hgl,hb⟩)
      exact U _ _ _ _ (H63 W2 (on.below hb) g (eb.below hb eb.lt))
  have H65 : ∀ (W : World) (on : Oe W0 W e) (eb : EBox W e (A0) (.slice (some ⟨gb,0,none⟩) 1 cb)) (v6 : Vx W p6 0),R 13 #[Ox,Ox,Ix,Ox,Ox,Ox,Ox,Ox,Ox,Ox,Ox,Ox,Ox,Ox] { tmps := #[ρ e,v1,v2,v3,v4,v5,ρ p6,v7,v8,v9,v10,v11,v12,v13,v14,v15,v16,v17,v18,v19,v20,v21,v22,v23,v24,v25,v26,v27,v28,v29,v30,v31,v32,v33,v34,v35,v36,v37,v38,v39,v40,v41,v42,v43,v44,v45,v46,v47,v48,v49,v50,v51,v52,v53,v54,v55,ρ e,v57,v58,v59,v60,v61,v62,v63,v64,v65,v66,v67,v68,v69,v70,v71,v72,v73],defers := [] } W := by
    intro W on eb v6
    rw [← hR]
    dsimp only [ρ]
    have e0 := eb.cell0
    have e1 := eb.cell1
    have f0 := eb.free 0
    have f1 := eb.free 1
    have g0 := v6.c0
    have g1 := v6.c1
    refine wpAnyIn_ready (rs := [0,1,3,6]) (by kernel_rfl) (by simp) (AllReadyIn.cons rfl (fun K hK => ?_) (AllReadyIn.cons rfl (fun K hK => ?_) (AllReadyIn.cons rfl (fun K hK => ?_) (AllReadyIn.cons rfl (fun K hK => ?_) (AllReadyIn.nil)))))
    · go_simp; exact hK _ _ (U _ _ _ _ (H35 W on eb v6))
    · go_simp; exact hK _ _ (U _ _ _ _ (H50 W on eb v6))
    · go_simp; exact hK _ _ (U _ _ _ _ (H62 W on eb v6))
    · go_simp; exact hK _ _ (U _ _ _ _ (H64 W on eb))
  have H66 : ∀ (W : World) (on : Oe W0 W e) (g : Nat) (eb : EBox W e (A0) (.slice (some ⟨gb,0,none⟩) 1 cb)) ,R 12 #[Ox,Ox,Ox,Ox,Ox,Ox,Ix,Ix,Ox,Ox,Ox,Ox,Ox,Ox] { tmps := #[ρ e,v1,v2,v3,v4,v5,ρ p6,v7,v8,v9,v10,v11,v12,v13,v14,v15,v16,v17,v18,v19,v20,v21,v22,v23,v24,v25,v26,v27,v28,v29,v30,v31,v32,v33,v34,v35,v36,v37,v38,v39,v40,v41,v42,v43,v44,v45,v46,v47,v48,v49,v50,v51,v52,v53,v54,v55,v56,v57,v58,v59,ν 0,ς g 0 0,v62,v63,v64,v65,v66,v67,v68,v69,v70,v71,v72,v73],defers := [] } W := by
    intro W on g eb
    rw [← hR]
    dsimp only [ρ,ς,ν]
    have e0 := eb.cell0
    have e1 := eb.cell1
    have f0 := eb.free 0
    have f1 := eb.free 1
    refine wpAnyIn_ready (rs := [0,1,2]) (by kernel_rfl) (by simp) (AllReadyIn.cons rfl (fun K hK => ?_) (AllReadyIn.cons rfl (fun K hK => ?_) (AllReadyIn.cons rfl (fun K hK => ?_) (AllReadyIn.nil))))
    · go_simp; exact hK _ _ (U _ _ _ _ (H36 W on g eb))
    · go_simp; exact hK _ _ (U _ _ _ _ (H51 W on g eb))
    · go_simp; exact hK _ _ (U _ _ _ _ (H63 W on g eb))
  have H67 : ∀ (W : World) (on : Oe W0 W e) (eb : EBox W e (A0) (.slice (some ⟨gb,0,none⟩) 1 cb)) ,R 13 #[Ox,Ox,Ox,Ox,Ox,Ox,Ix,Ox,Ox,Ox,Ox,Ox,Ox,Ox] { tmps := #[ρ e,v1,v2,v3,v4,v5,ρ p6,v7,v8,v9,v10,v11,v12,v13,v14,v15,v16,v17,v18,v19,v20,v21,v22,v23,v24,v25,v26,v27,v28,v29,v30,v31,v32,v33,v34,v35,v36,v37,v38,v39,v40,v41,v42,v43,v44,v45,v46,v47,v48,v49,v50,v51,v52,v53,v54,v55,v56,v57,v58,v59,ν 0,v61,v62,v63,v64,v65,v66,v67,v68,v69,v70,v71,v72,v73],defers := [] } W := by
    intro W on eb
    rw [← hR]
    dsimp only [ρ,ν]
    have e0 := eb.cell0
    have e1 := eb.cell1
    have f0 := eb.free 0
    have f1 := eb.free 1
    refine wpAnyIn_ready (rs := [0,1,2,7]) (by kernel_rfl) (by simp) (AllReadyIn.cons rfl (fun K hK => ?_) (AllReadyIn.cons rfl (fun K hK => ?_) (AllReadyIn.cons rfl (fun K hK => ?_) (AllReadyIn.cons rfl (fun K hK => ?_) (AllReadyIn.nil)))))
    · go_simp; exact hK _ _ (U _ _ _ _ (H37 W on eb))
    · go_simp; exact hK _ _ (U _ _ _ _ (H52 W on eb))
    · go_simp; exact hK _ _ (U _ _ _ _ (H64 W on eb))
    · go_simp
      gi_wp2_with (refine ⟨trivial,?_⟩; gi_at_call 46; refine (callsIn_wide.2 (wordsOf_zero W)).mono ?_; rintro e W2 ⟨g,rfl,hgl,hb⟩)
      exact U _ _ _ _ (H66 W2 (on.below hb) g (eb.below hb eb.lt))
  have H68 : ∀ (W : World) (on : Oe W0 W e) (eb : EBox W e (A0) (.slice (some ⟨gb,0,none⟩) 1 cb)) (v6 : Vx W p6 0),R 14 #[Ox,Ox,Ox,Ox,Ox,Ox,Ox,Ox,Ox,Ox,Ox,Ox,Ox,Ox] { tmps := #[ρ e,v1,v2,v3,v4,v5,ρ p6,v7,v8,v9,v10,v11,v12,v13,v14,v15,v16,v17,v18,v19,v20,v21,v22,v23,v24,v25,v26,v27,v28,v29,v30,v31,v32,v33,v34,v35,v36,v37,v38,v39,v40,v41,v42,v43,v44,v45,v46,v47,v48,v49,v50,v51,v52,v53,v54,v55,v56,v57,v58,v59,v60,v61,v62,v63,v64,v65,v66,v67,v68,v69,v70,v71,v72,v73],defers := [] } W := by
    intro W on eb v6
    rw [← hR]
    dsimp only [ρ]
    have e0 := eb.cell0
    have e1 := eb.cell1
    have f0 := eb.free 0
    have f1 := eb.free 1
    have g0 := v6.c0
    have g1 := v6.c1
    refine wpAnyIn_ready (rs := [0,1,2,6]) (by kernel_rfl) (by simp) (AllReadyIn.cons rfl (fun K hK => ?_) (AllReadyIn.cons rfl (fun K hK => ?_) (AllReadyIn.cons rfl (fun K hK => ?_) (AllReadyIn.cons rfl (fun K hK => ?_) (AllReadyIn.nil)))))
    · go_simp; exact hK _ _ (U _ _ _ _ (H38 W on eb v6))
    · go_simp; exact hK _ _ (U _ _ _ _ (H53 W on eb v6))
    · go_simp; exact hK _ _ (U _ _ _ _ (H65 W on eb v6))
    · go_simp; exact hK _ _ (U _ _ _ _ (H67 W on eb))
  exact H68 W0.drew ⟨rfl,rfl,rfl,Nat.le_refl _,fun _ _ _ => rfl⟩ (show EBox W0.drew e _ _ from he) hv.drew
end Go.Proofs.YtlkblgpekbeljaaGreatDoor
