/- FreshW -/
import Derived.Test.YtgccgacpifebbaaGreatDoorZb43
import Derived.Test.YtgccgacpifebbaaGreatDoorZb37
namespace Go.Proofs.YtgccgacpifebbaaGreatDoor
open Go.RowKit
set_option linter.unusedVariables false
/-- The words of v, if it has a row, lie in a block from B on. -/
def NewI (B : Nat) (v : Value) : Prop := ∀ b x q o e l c,v = .agg #[.bool b,.int .u64 x,.slice (some ⟨q,o,e⟩) l c] → B ≤ q
theorem NewI.mono {B C : Nat} {v : Value} (h : NewI B v) (hc : C ≤ B) : NewI C v := fun b x q o e l c hv => Nat.le_trans hc (h b x q o e l c hv)
theorem New.whole {B : Nat} {x : Int} {p : Option Addr} {l c : Nat} (h : New B (.agg #[.int .u64 x,.slice p l c])) (b : Bool) : NewI B (.agg #[.bool b,.int .u64 x,.slice p l c]) := fun b' x' q o e l' c' hv => by
  simp only [Value.agg.injEq,Array.mk.injEq,List.cons.injEq] at hv
  obtain ⟨_,h1,h2,_⟩ := hv
  exact h x' q o e l' c' (by rw [h1,h2])
def RetIntF (z : Int) (w : World) (e : Ending) (w' : World) : Prop := ∃ v,e = .returned v ∧ IsInt w' v z ∧ Below w.heap.size w w' ∧ NewI w.heap.size v
def RetSame (z x : Int) (p : Option Addr) (l k : Nat) (w : World) (e : Ending) (w' : World) : Prop := e = .returned (.agg #[.bool (decide (z < 0)),.int .u64 x,.slice p l k]) ∧ IsNat w' (.agg #[.int .u64 x,.slice p l k]) (absI z) ∧ Below w.heap.size w w'
theorem bodyPost_intS {fn : Func} {p : Tmp} (h : fn.results = #[.cell p 28]) {w w' : World} {a : Act} {x : Int} {pp : Option Addr} {l k : Nat} {b : Bool} {z : Int} {c : Nat} (hd : a.defers = [])
    (hp : a.tmps.getD p undef = .pointer (some ⟨c,0,none⟩)) (hr : Row3 w' c (.bool b) (.int .u64 x) (.slice pp l k)) (hb : b = decide (z < 0)) (hn : IsNat w' (.agg #[.int .u64 x,.slice pp l k]) (absI z)) (hB : Below w.heap.size w w') :
    bodyPost Tryz.prog fn (RetSame z x pp l k w) Exit.ret a w' := by
  subst hb
  exact bodyPost_ret (v := .agg #[.bool (decide (z < 0)),.int .u64 x,.slice pp l k]) (results_cell_row h _ _ c _ _ (0,0) _ hp hr Tryz.underlying28 rfl (by kernel_rfl)) hd ⟨rfl,hn,hB⟩
theorem bodyPost_intF {fn : Func} {p : Tmp} (h : fn.results = #[.cell p 28]) {w w' : World} {a : Act} {x : Int} {pp : Option Addr} {l k : Nat} {b : Bool} {z : Int} {c : Nat} (hd : a.defers = [])
    (hp : a.tmps.getD p undef = .pointer (some ⟨c,0,none⟩)) (hr : Row3 w' c (.bool b) (.int .u64 x) (.slice pp l k)) (hb : b = decide (z < 0)) (hn : IsNat w' (.agg #[.int .u64 x,.slice pp l k]) (absI z)) (hB : Below w.heap.size w w') (hw : New w.heap.size (.agg #[.int .u64 x,.slice pp l k])) :
    bodyPost Tryz.prog fn (RetIntF z w) Exit.ret a w' := by
  refine bodyPost_ret (v := .agg #[.bool b,.int .u64 x,.slice pp l k]) (results_cell_row h _ _ c _ _ (0,0) _ hp hr Tryz.underlying28 rfl (by kernel_rfl)) hd ⟨_,rfl,⟨x,pp,l,k,by rw [hb],hn⟩,hB,hw.whole b⟩
set_option maxRecDepth 100000 in
set_option maxHeartbeats 4000000 in
theorem from_pos_S (x : Int) (p : Option Addr) (l c : Nat) (n : Int) (w : World) (h : IsNat w (.agg #[.int .u64 x,.slice p l c]) n) : Calls Tryz.prog 23 #[.bool false,.agg #[.int .u64 x,.slice p l c]] w (RetSame n x p l c w) := by
  have n0 := h.nonneg
  have ea : absI n = n := by unfold absI; rw [if_neg (by omega)]
  have hv := Var.new w w.heap.size (.int .u64 x) p l c rfl
  have hW : Below w.heap.size w ((w.alloc (.cells #[.int .u64 x,.slice p l c] 26)).alloc (.cells #[.bool false,.int .u64 0,.slice none 0 0] 28)) := by go_grown
  have hr := Row3.new (w.alloc (.cells #[.int .u64 x,.slice p l c] 26)) (.bool false) (.int .u64 0) (.slice none 0 0) (w.heap.size + 1) (by simp)
  have hv2 := hv.alloc (.cells #[.bool false,.int .u64 0,.slice none 0 0] 28)
  go_enter Tryz.func23,Tryz.ntmps23
  go_wp2_with fail
  generalize ((w.alloc (.cells #[.int .u64 x,.slice p l c] 26)).alloc (.cells #[.bool false,.int .u64 0,.slice none 0 0] 28)) = W at hv2 hW hr ⊢
  obtain ⟨q,hq⟩ : ∃ q,w.heap.size = q := ⟨_,rfl⟩
  rw [hq] at hv2 hr ⊢
  have a0 := hv2.c0
  have a1 := hv2.c1
  have c0 := hr.cell0
  have c1 := hr.cell1
  have c2 := hr.cell2
  have f0 := hr.free 0
  have f1 := hr.free 1
  have f2 := hr.free 2
  have g3 := (hr.set3 (.bool false) (.int .u64 x) (.slice p l c))
  have hB3 := ((hW.setCell (p := ⟨q + 1,0,none⟩) (by show w.heap.size ≤ q + 1; omega) (.bool false)).setCell (p := ⟨q + 1,1,none⟩) (by show w.heap.size ≤ q + 1; omega) (.int .u64 x)).setCell (p := ⟨q + 1,2,none⟩) (by show w.heap.size ≤ q + 1; omega) (.slice p l c)
  go_region
  all_goals
    go_wp2_with fail
    exact bodyPost_intS Tryz.results23 rfl rfl g3 (decide_eq_false (by omega)).symm (by rw [ea]; exact h.below hB3.drew) hB3.drew
set_option maxRecDepth 100000 in
set_option maxHeartbeats 4000000 in
theorem from_neg_S (x : Int) (p : Option Addr) (l c : Nat) (n : Int) (w : World) (h : IsNat w (.agg #[.int .u64 x,.slice p l c]) n) : Calls Tryz.prog 23 #[.bool true,.agg #[.int .u64 x,.slice p l c]] w (RetSame (-n) x p l c w) := by
  have n0 := h.nonneg
  have ea : absI (-n) = n := by unfold absI; split <;> omega
  have hv := Var.new w w.heap.size (.int .u64 x) p l c rfl
  have hW : Below w.heap.size w ((w.alloc (.cells #[.int .u64 x,.slice p l c] 26)).alloc (.cells #[.bool false,.int .u64 0,.slice none 0 0] 28)) := by go_grown
  have hr := Row3.new (w.alloc (.cells #[.int .u64 x,.slice p l c] 26)) (.bool false) (.int .u64 0) (.slice none 0 0) (w.heap.size + 1) (by simp)
  have hv2 := hv.alloc (.cells #[.bool false,.int .u64 0,.slice none 0 0] 28)
  go_enter Tryz.func23,Tryz.ntmps23
  go_wp2_with fail
  generalize ((w.alloc (.cells #[.int .u64 x,.slice p l c] 26)).alloc (.cells #[.bool false,.int .u64 0,.slice none 0 0] 28)) = W at hv2 hW hr ⊢
  obtain ⟨q,hq⟩ : ∃ q,w.heap.size = q := ⟨_,rfl⟩
  rw [hq] at hv2 hr ⊢
  have a0 := hv2.c0
  have a1 := hv2.c1
  have c0 := hr.cell0
  have c1 := hr.cell1
  have c2 := hr.cell2
  have f0 := hr.free 0
  have f1 := hr.free 1
  have f2 := hr.free 2
  have bt := fun W (g : IsNat W (.agg #[.int .u64 x,.slice p l c]) n) => bits_nat _ n W g
  have hnW := h.below hW
  have hnWd : IsNat W.drew (.agg #[.int .u64 x,.slice p l c]) n := hnW
  have acc := Below.refl (q + 2) W
  have z0 : q < q + 2 := by omega
  have z1 : q + 1 < q + 2 := by omega
  have d01 : q ≠ q + 1 := by omega
  have hsz : q + 2 ≤ W.heap.size := by have := hr.lt; omega
  clear c0 c1 c2 f0 f1 f2
  go_region_held3 (fun w' => w'.cell? ⟨q,0,none⟩ = some (.int .u64 x) ∧ w'.cell? ⟨q,1,none⟩ = some (.slice p l c))
    (first | with_reducible exact ⟨(hv2.below acc z0).c0,(hv2.below acc z0).c1⟩ | with_reducible exact ⟨(hv2.below acc z0).drew.c0,(hv2.below acc z0).drew.c1⟩ | with_reducible exact ⟨((((hv2.below acc z0).other d01 _).other d01 _).other d01 _).c0,((((hv2.below acc z0).other d01 _).other d01 _).other d01 _).c1⟩)
    (first
      | (go_at_call 55; (first | (have q := bt W hnW; (with_reducible refine q.mono ?_); clear q) | (have q := bt W.drew hnWd; (with_reducible refine q.mono ?_); clear q)); rintro e wa ⟨⟨k,rfl,hk⟩,hb⟩; (first | replace hb : Below W.heap.size W wa := hb | replace hb := below_undrew (w := W) hb); replace acc := acc.trans (hb.mono hsz); clear hb; have a0 := (hv2.below acc z0).c0; have a1 := (hv2.below acc z0).c1; have c0 := (hr.below acc z1).cell0; have c1 := (hr.below acc z1).cell1; have c2 := (hr.below acc z1).cell2; have f0 := (hr.below acc z1).free 0; have f1 := (hr.below acc z1).free 1; have f2 := (hr.below acc z1).free 2))
  all_goals
    have hbw := hW.trans (acc.mono (by have := hW.size; omega))
    have g3 := ((hr.below acc z1).set3 (.bool (decide (0 < k))) (.int .u64 x) (.slice p l c))
    have hB3 := ((hbw.setCell (p := ⟨q + 1,0,none⟩) (by show w.heap.size ≤ q + 1; omega) (.bool (decide (0 < k)))).setCell (p := ⟨q + 1,1,none⟩) (by show w.heap.size ≤ q + 1; omega) (.int .u64 x)).setCell (p := ⟨q + 1,2,none⟩) (by show w.heap.size ≤ q + 1; omega) (.slice p l c)
    have hkn : (0 < k) ↔ (-n < 0) := by
      constructor
      · intro hk0
        have h1 := hk.2 (by omega)
        have h2 : (0 : Int) < 2 ^ (k - 1) := Int.pow_pos (by decide)
        omega
      · intro hn0
        exact bits_pos' hk (by omega)
    go_wp2_with fail
    exact bodyPost_intS Tryz.results23 rfl rfl g3 (decide_eq_decide.2 hkn) (by rw [ea]; exact h.below hB3) hB3
theorem from_S (neg : Bool) (x : Int) (p : Option Addr) (l c : Nat) (n : Int) (w : World) (h : IsNat w (.agg #[.int .u64 x,.slice p l c]) n) : Calls Tryz.prog 23 #[.bool neg,.agg #[.int .u64 x,.slice p l c]] w (RetSame (if neg then -n else n) x p l c w) := by
  cases neg
  · exact from_pos_S x p l c n w h
  · exact from_neg_S x p l c n w h
set_option maxRecDepth 100000 in
set_option maxHeartbeats 4000000 in
theorem add_same_falseF (K : Nat) (hK : K ≤ 4294967296) (x : Int) (p : Option Addr) (l c : Nat) (y : Int) (r : Option Addr) (m d : Nat) (n1 n2 R : Int) (w : World) (hx : IsNat w (.agg #[.int .u64 x,.slice p l c]) n1) (hy : IsNat w (.agg #[.int .u64 y,.slice r m d]) n2) (h1K : n1 < pw K) (h2K : n2 < pw K) (hR : Hid (decide (R < 0) = false)) (eN : Hid (absI R = n1 + n2)) : Calls Tryz.prog 20 #[.agg #[.bool false,.int .u64 x,.slice p l c],.agg #[.bool false,.int .u64 y,.slice r m d]] w (RetIntF R w) := by
  have mm := fun W (g1 : IsNat W (.agg #[.int .u64 x,.slice p l c]) n1) (g2 : IsNat W (.agg #[.int .u64 y,.slice r m d]) n2) => add_anyF K hK _ _ _ _ W g1 g2 h1K h2K
  have hW : Below w.heap.size w (((w.alloc (.cells #[.bool false,.int .u64 x,.slice p l c] 28)).alloc (.cells #[.bool false,.int .u64 y,.slice r m d] 28)).alloc (.cells #[.bool false,.int .u64 0,.slice none 0 0] 28)) := by go_grown
  have ra := ((Row3.new w (.bool false) (.int .u64 x) (.slice p l c) w.heap.size rfl).alloc (.cells #[.bool false,.int .u64 y,.slice r m d] 28)).alloc (.cells #[.bool false,.int .u64 0,.slice none 0 0] 28)
  have rb := (Row3.new (w.alloc (.cells #[.bool false,.int .u64 x,.slice p l c] 28)) (.bool false) (.int .u64 y) (.slice r m d) (w.heap.size + 1) (by simp)).alloc (.cells #[.bool false,.int .u64 0,.slice none 0 0] 28)
  have rr := Row3.new ((w.alloc (.cells #[.bool false,.int .u64 x,.slice p l c] 28)).alloc (.cells #[.bool false,.int .u64 y,.slice r m d] 28)) (.bool false) (.int .u64 0) (.slice none 0 0) (w.heap.size + 1 + 1) (by simp)
  have hnx := hx.below hW
  have hny := hy.below hW
  have wsz : w.heap.size + 3 ≤ (((w.alloc (.cells #[.bool false,.int .u64 x,.slice p l c] 28)).alloc (.cells #[.bool false,.int .u64 y,.slice r m d] 28)).alloc (.cells #[.bool false,.int .u64 0,.slice none 0 0] 28)).heap.size := by have := rr.lt; omega
  go_enter Tryz.func20,Tryz.ntmps20
  go_wp2_with fail
  generalize (((w.alloc (.cells #[.bool false,.int .u64 x,.slice p l c] 28)).alloc (.cells #[.bool false,.int .u64 y,.slice r m d] 28)).alloc (.cells #[.bool false,.int .u64 0,.slice none 0 0] 28)) = W at hW ra rb rr hnx hny wsz ⊢
  obtain ⟨q,hq⟩ : ∃ q,w.heap.size = q := ⟨_,rfl⟩
  have hqw : w.heap.size ≤ q + 1 + 1 := by omega
  rw [hq] at ra rb rr wsz ⊢
  have z0 : q < q + 3 := by omega
  have z1 : q + 1 < q + 3 := by omega
  have z2 : q + 1 + 1 < q + 3 := by omega
  have d0 : q ≠ q + 1 + 1 := by omega
  have d1 : q + 1 ≠ q + 1 + 1 := by omega
  have acc := Below.refl (q + 3) W
  have hnxd : IsNat W.drew (.agg #[.int .u64 x,.slice p l c]) n1 := hnx
  have hnyd : IsNat W.drew (.agg #[.int .u64 y,.slice r m d]) n2 := hny
  have a0 := (ra.below acc z0).cell0
  have a1 := (ra.below acc z0).cell1
  have a2 := (ra.below acc z0).cell2
  have b0 := (rb.below acc z1).cell0
  have b1 := (rb.below acc z1).cell1
  have b2 := (rb.below acc z1).cell2
  have c0 := (rr.below acc z2).cell0
  have c1 := (rr.below acc z2).cell1
  have c2 := (rr.below acc z2).cell2
  have f0 := (rr.below acc z2).free 0
  have f1 := (rr.below acc z2).free 1
  have f2 := (rr.below acc z2).free 2
  go_region_held3 (fun w' => w'.cell? ⟨q,0,none⟩ = some (.bool false) ∧ w'.cell? ⟨q,1,none⟩ = some (.int .u64 x) ∧ w'.cell? ⟨q,2,none⟩ = some (.slice p l c) ∧ w'.cell? ⟨q + 1,0,none⟩ = some (.bool false) ∧ w'.cell? ⟨q + 1,1,none⟩ = some (.int .u64 y) ∧ w'.cell? ⟨q + 1,2,none⟩ = some (.slice r m d))
    (first | with_reducible exact ⟨(ra.below acc z0).cell0,(ra.below acc z0).cell1,(ra.below acc z0).cell2,(rb.below acc z1).cell0,(rb.below acc z1).cell1,(rb.below acc z1).cell2⟩ | with_reducible exact ⟨(ra.below acc z0).drew.cell0,(ra.below acc z0).drew.cell1,(ra.below acc z0).drew.cell2,(rb.below acc z1).drew.cell0,(rb.below acc z1).drew.cell1,(rb.below acc z1).drew.cell2⟩ | with_reducible exact ⟨((((ra.below acc z0).other (a := ⟨q + 1 + 1,0,none⟩) d0 _).other (a := ⟨q + 1 + 1,1,none⟩) d0 _).other (a := ⟨q + 1 + 1,2,none⟩) d0 _).cell0,((((ra.below acc z0).other (a := ⟨q + 1 + 1,0,none⟩) d0 _).other (a := ⟨q + 1 + 1,1,none⟩) d0 _).other (a := ⟨q + 1 + 1,2,none⟩) d0 _).cell1,((((ra.below acc z0).other (a := ⟨q + 1 + 1,0,none⟩) d0 _).other (a := ⟨q + 1 + 1,1,none⟩) d0 _).other (a := ⟨q + 1 + 1,2,none⟩) d0 _).cell2,((((rb.below acc z1).other (a := ⟨q + 1 + 1,0,none⟩) d1 _).other (a := ⟨q + 1 + 1,1,none⟩) d1 _).other (a := ⟨q + 1 + 1,2,none⟩) d1 _).cell0,((((rb.below acc z1).other (a := ⟨q + 1 + 1,0,none⟩) d1 _).other (a := ⟨q + 1 + 1,1,none⟩) d1 _).other (a := ⟨q + 1 + 1,2,none⟩) d1 _).cell1,((((rb.below acc z1).other (a := ⟨q + 1 + 1,0,none⟩) d1 _).other (a := ⟨q + 1 + 1,1,none⟩) d1 _).other (a := ⟨q + 1 + 1,2,none⟩) d1 _).cell2⟩)
    (first
      | (go_at_call 53; (first | (have q1 := mm W hnx hny; (with_reducible refine q1.mono ?_); clear q1) | (have q1 := mm W.drew hnxd hnyd; (with_reducible refine q1.mono ?_); clear q1)); rintro e wa ⟨v1,rfl,hs1,hb,hnw⟩; (first | replace hb : Below W.heap.size W wa := hb | replace hb := below_undrew (w := W) hb); replace acc := acc.trans (hb.mono (Nat.le_trans wsz acc.size)); obtain ⟨x1,p1,l1,k1,rfl⟩ := hs1.shape; replace hnw := hnw.mono (C := w.heap.size) hW.size; have a0 := (ra.below acc z0).cell0; have a1 := (ra.below acc z0).cell1; have a2 := (ra.below acc z0).cell2; have b0 := (rb.below acc z1).cell0; have b1 := (rb.below acc z1).cell1; have b2 := (rb.below acc z1).cell2; have c0 := (rr.below acc z2).cell0; have c1 := (rr.below acc z2).cell1; have c2 := (rr.below acc z2).cell2; have f0 := (rr.below acc z2).free 0; have f1 := (rr.below acc z2).free 1; have f2 := (rr.below acc z2).free 2; clear hb))
  all_goals
    have hbw := hW.trans (acc.mono (by have := hW.size; omega))
    have r2 := rr.below acc z2
    have g3 := r2.set3 (.bool false) (.int .u64 x1) (.slice p1 l1 k1)
    have hB3 := ((hbw.setCell (p := ⟨q + 1 + 1,0,none⟩) hqw (.bool false)).setCell (p := ⟨q + 1 + 1,1,none⟩) hqw (.int .u64 x1)).setCell (p := ⟨q + 1 + 1,2,none⟩) hqw (.slice p1 l1 k1)
    go_wp2_with fail
    exact bodyPost_intF Tryz.results20 rfl rfl g3 hR.out.symm (by rw [eN.out]; exact hs1.row3 r2 _ _ _) hB3 hnw
set_option maxRecDepth 100000 in
set_option maxHeartbeats 4000000 in
theorem add_same_trueF (K : Nat) (hK : K ≤ 4294967296) (x : Int) (p : Option Addr) (l c : Nat) (y : Int) (r : Option Addr) (m d : Nat) (n1 n2 R : Int) (w : World) (hx : IsNat w (.agg #[.int .u64 x,.slice p l c]) n1) (hy : IsNat w (.agg #[.int .u64 y,.slice r m d]) n2) (h1K : n1 < pw K) (h2K : n2 < pw K) (hR : Hid (decide (R < 0) = true)) (eN : Hid (absI R = n1 + n2)) : Calls Tryz.prog 20 #[.agg #[.bool true,.int .u64 x,.slice p l c],.agg #[.bool true,.int .u64 y,.slice r m d]] w (RetIntF R w) := by
  have mm := fun W (g1 : IsNat W (.agg #[.int .u64 x,.slice p l c]) n1) (g2 : IsNat W (.agg #[.int .u64 y,.slice r m d]) n2) => add_anyF K hK _ _ _ _ W g1 g2 h1K h2K
  have hW : Below w.heap.size w (((w.alloc (.cells #[.bool true,.int .u64 x,.slice p l c] 28)).alloc (.cells #[.bool true,.int .u64 y,.slice r m d] 28)).alloc (.cells #[.bool false,.int .u64 0,.slice none 0 0] 28)) := by go_grown
  have ra := ((Row3.new w (.bool true) (.int .u64 x) (.slice p l c) w.heap.size rfl).alloc (.cells #[.bool true,.int .u64 y,.slice r m d] 28)).alloc (.cells #[.bool false,.int .u64 0,.slice none 0 0] 28)
  have rb := (Row3.new (w.alloc (.cells #[.bool true,.int .u64 x,.slice p l c] 28)) (.bool true) (.int .u64 y) (.slice r m d) (w.heap.size + 1) (by simp)).alloc (.cells #[.bool false,.int .u64 0,.slice none 0 0] 28)
  have rr := Row3.new ((w.alloc (.cells #[.bool true,.int .u64 x,.slice p l c] 28)).alloc (.cells #[.bool true,.int .u64 y,.slice r m d] 28)) (.bool false) (.int .u64 0) (.slice none 0 0) (w.heap.size + 1 + 1) (by simp)
  have hnx := hx.below hW
  have hny := hy.below hW
  have wsz : w.heap.size + 3 ≤ (((w.alloc (.cells #[.bool true,.int .u64 x,.slice p l c] 28)).alloc (.cells #[.bool true,.int .u64 y,.slice r m d] 28)).alloc (.cells #[.bool false,.int .u64 0,.slice none 0 0] 28)).heap.size := by have := rr.lt; omega
  go_enter Tryz.func20,Tryz.ntmps20
  go_wp2_with fail
  generalize (((w.alloc (.cells #[.bool true,.int .u64 x,.slice p l c] 28)).alloc (.cells #[.bool true,.int .u64 y,.slice r m d] 28)).alloc (.cells #[.bool false,.int .u64 0,.slice none 0 0] 28)) = W at hW ra rb rr hnx hny wsz ⊢
  obtain ⟨q,hq⟩ : ∃ q,w.heap.size = q := ⟨_,rfl⟩
  have hqw : w.heap.size ≤ q + 1 + 1 := by omega
  rw [hq] at ra rb rr wsz ⊢
  have z0 : q < q + 3 := by omega
  have z1 : q + 1 < q + 3 := by omega
  have z2 : q + 1 + 1 < q + 3 := by omega
  have d0 : q ≠ q + 1 + 1 := by omega
  have d1 : q + 1 ≠ q + 1 + 1 := by omega
  have acc := Below.refl (q + 3) W
  have hnxd : IsNat W.drew (.agg #[.int .u64 x,.slice p l c]) n1 := hnx
  have hnyd : IsNat W.drew (.agg #[.int .u64 y,.slice r m d]) n2 := hny
  have a0 := (ra.below acc z0).cell0
  have a1 := (ra.below acc z0).cell1
  have a2 := (ra.below acc z0).cell2
  have b0 := (rb.below acc z1).cell0
  have b1 := (rb.below acc z1).cell1
  have b2 := (rb.below acc z1).cell2
  have c0 := (rr.below acc z2).cell0
  have c1 := (rr.below acc z2).cell1
  have c2 := (rr.below acc z2).cell2
  have f0 := (rr.below acc z2).free 0
  have f1 := (rr.below acc z2).free 1
  have f2 := (rr.below acc z2).free 2
  go_region_held3 (fun w' => w'.cell? ⟨q,0,none⟩ = some (.bool true) ∧ w'.cell? ⟨q,1,none⟩ = some (.int .u64 x) ∧ w'.cell? ⟨q,2,none⟩ = some (.slice p l c) ∧ w'.cell? ⟨q + 1,0,none⟩ = some (.bool true) ∧ w'.cell? ⟨q + 1,1,none⟩ = some (.int .u64 y) ∧ w'.cell? ⟨q + 1,2,none⟩ = some (.slice r m d))
    (first | with_reducible exact ⟨(ra.below acc z0).cell0,(ra.below acc z0).cell1,(ra.below acc z0).cell2,(rb.below acc z1).cell0,(rb.below acc z1).cell1,(rb.below acc z1).cell2⟩ | with_reducible exact ⟨(ra.below acc z0).drew.cell0,(ra.below acc z0).drew.cell1,(ra.below acc z0).drew.cell2,(rb.below acc z1).drew.cell0,(rb.below acc z1).drew.cell1,(rb.below acc z1).drew.cell2⟩ | with_reducible exact ⟨((((ra.below acc z0).other (a := ⟨q + 1 + 1,0,none⟩) d0 _).other (a := ⟨q + 1 + 1,1,none⟩) d0 _).other (a := ⟨q + 1 + 1,2,none⟩) d0 _).cell0,((((ra.below acc z0).other (a := ⟨q + 1 + 1,0,none⟩) d0 _).other (a := ⟨q + 1 + 1,1,none⟩) d0 _).other (a := ⟨q + 1 + 1,2,none⟩) d0 _).cell1,((((ra.below acc z0).other (a := ⟨q + 1 + 1,0,none⟩) d0 _).other (a := ⟨q + 1 + 1,1,none⟩) d0 _).other (a := ⟨q + 1 + 1,2,none⟩) d0 _).cell2,((((rb.below acc z1).other (a := ⟨q + 1 + 1,0,none⟩) d1 _).other (a := ⟨q + 1 + 1,1,none⟩) d1 _).other (a := ⟨q + 1 + 1,2,none⟩) d1 _).cell0,((((rb.below acc z1).other (a := ⟨q + 1 + 1,0,none⟩) d1 _).other (a := ⟨q + 1 + 1,1,none⟩) d1 _).other (a := ⟨q + 1 + 1,2,none⟩) d1 _).cell1,((((rb.below acc z1).other (a := ⟨q + 1 + 1,0,none⟩) d1 _).other (a := ⟨q + 1 + 1,1,none⟩) d1 _).other (a := ⟨q + 1 + 1,2,none⟩) d1 _).cell2⟩)
    (first
      | (go_at_call 53; (first | (have q1 := mm W hnx hny; (with_reducible refine q1.mono ?_); clear q1) | (have q1 := mm W.drew hnxd hnyd; (with_reducible refine q1.mono ?_); clear q1)); rintro e wa ⟨v1,rfl,hs1,hb,hnw⟩; (first | replace hb : Below W.heap.size W wa := hb | replace hb := below_undrew (w := W) hb); replace acc := acc.trans (hb.mono (Nat.le_trans wsz acc.size)); obtain ⟨x1,p1,l1,k1,rfl⟩ := hs1.shape; replace hnw := hnw.mono (C := w.heap.size) hW.size; have a0 := (ra.below acc z0).cell0; have a1 := (ra.below acc z0).cell1; have a2 := (ra.below acc z0).cell2; have b0 := (rb.below acc z1).cell0; have b1 := (rb.below acc z1).cell1; have b2 := (rb.below acc z1).cell2; have c0 := (rr.below acc z2).cell0; have c1 := (rr.below acc z2).cell1; have c2 := (rr.below acc z2).cell2; have f0 := (rr.below acc z2).free 0; have f1 := (rr.below acc z2).free 1; have f2 := (rr.below acc z2).free 2; clear hb))
  all_goals
    have hbw := hW.trans (acc.mono (by have := hW.size; omega))
    have r2 := rr.below acc z2
    have g3 := r2.set3 (.bool true) (.int .u64 x1) (.slice p1 l1 k1)
    have hB3 := ((hbw.setCell (p := ⟨q + 1 + 1,0,none⟩) hqw (.bool true)).setCell (p := ⟨q + 1 + 1,1,none⟩) hqw (.int .u64 x1)).setCell (p := ⟨q + 1 + 1,2,none⟩) hqw (.slice p1 l1 k1)
    go_wp2_with fail
    exact bodyPost_intF Tryz.results20 rfl rfl g3 hR.out.symm (by rw [eN.out]; exact hs1.row3 r2 _ _ _) hB3 hnw
set_option maxRecDepth 100000 in
set_option maxHeartbeats 4000000 in
theorem add_more_falseF (K : Nat) (hK : 1 ≤ K) (hK2 : K ≤ 4294967296) (x : Int) (p : Option Addr) (l c : Nat) (y : Int) (r : Option Addr) (m d : Nat) (n1 n2 R : Int) (w : World) (hx : IsNat w (.agg #[.int .u64 x,.slice p l c]) n1) (hy : IsNat w (.agg #[.int .u64 y,.slice r m d]) n2) (h1K : n1 < pw K) (hle : n2 ≤ n1) (eN : Hid ((if false = true then -(n1 - n2) else n1 - n2) = R)) : Calls Tryz.prog 20 #[.agg #[.bool false,.int .u64 x,.slice p l c],.agg #[.bool true,.int .u64 y,.slice r m d]] w (RetIntF R w) := by
  have mm := fun W (g1 : IsNat W (.agg #[.int .u64 x,.slice p l c]) n1) (g2 : IsNat W (.agg #[.int .u64 y,.slice r m d]) n2) => sub_anyF K hK hK2 _ _ _ _ W g1 g2 h1K hle
  have fr := fun x p l c W (g : IsNat W (.agg #[.int .u64 x,.slice p l c]) (n1 - n2)) => from_S false x p l c (n1 - n2) W g
  rw [eN.out] at fr
  clear eN hle
  have hW : Below w.heap.size w (((w.alloc (.cells #[.bool false,.int .u64 x,.slice p l c] 28)).alloc (.cells #[.bool true,.int .u64 y,.slice r m d] 28)).alloc (.cells #[.bool false,.int .u64 0,.slice none 0 0] 28)) := by go_grown
  have ra := ((Row3.new w (.bool false) (.int .u64 x) (.slice p l c) w.heap.size rfl).alloc (.cells #[.bool true,.int .u64 y,.slice r m d] 28)).alloc (.cells #[.bool false,.int .u64 0,.slice none 0 0] 28)
  have rb := (Row3.new (w.alloc (.cells #[.bool false,.int .u64 x,.slice p l c] 28)) (.bool true) (.int .u64 y) (.slice r m d) (w.heap.size + 1) (by simp)).alloc (.cells #[.bool false,.int .u64 0,.slice none 0 0] 28)
  have rr := Row3.new ((w.alloc (.cells #[.bool false,.int .u64 x,.slice p l c] 28)).alloc (.cells #[.bool true,.int .u64 y,.slice r m d] 28)) (.bool false) (.int .u64 0) (.slice none 0 0) (w.heap.size + 1 + 1) (by simp)
  have hnx := hx.below hW
  have hny := hy.below hW
  have wsz : w.heap.size + 3 ≤ (((w.alloc (.cells #[.bool false,.int .u64 x,.slice p l c] 28)).alloc (.cells #[.bool true,.int .u64 y,.slice r m d] 28)).alloc (.cells #[.bool false,.int .u64 0,.slice none 0 0] 28)).heap.size := by have := rr.lt; omega
  go_enter Tryz.func20,Tryz.ntmps20
  go_wp2_with fail
  generalize (((w.alloc (.cells #[.bool false,.int .u64 x,.slice p l c] 28)).alloc (.cells #[.bool true,.int .u64 y,.slice r m d] 28)).alloc (.cells #[.bool false,.int .u64 0,.slice none 0 0] 28)) = W at hW ra rb rr hnx hny wsz ⊢
  obtain ⟨q,hq⟩ : ∃ q,w.heap.size = q := ⟨_,rfl⟩
  have hqw : w.heap.size ≤ q + 1 + 1 := by omega
  rw [hq] at ra rb rr wsz ⊢
  have z0 : q < q + 3 := by omega
  have z1 : q + 1 < q + 3 := by omega
  have z2 : q + 1 + 1 < q + 3 := by omega
  have d0 : q ≠ q + 1 + 1 := by omega
  have d1 : q + 1 ≠ q + 1 + 1 := by omega
  have acc := Below.refl (q + 3) W
  refine (mm W hnx hny).mono ?_
  rintro e wa ⟨v1,rfl,hs1,hb,hnw⟩
  obtain ⟨x1,p1,l1,k1,rfl⟩ := hs1.shape
  replace hnw := hnw.mono (C := w.heap.size) (by have := hW.size; have := acc.size; omega)
  replace acc := acc.trans (hb.mono wsz)
  have hv := Var.new wa wa.heap.size (.int .u64 x1) p1 l1 k1 rfl
  have ba : Below wa.heap.size wa (wa.alloc (.cells #[.int .u64 x1,.slice p1 l1 k1] 26)) := by go_grown
  have wsa : q + 3 ≤ wa.heap.size := Nat.le_trans wsz acc.size
  replace acc := acc.trans (ba.mono wsa)
  replace hs1 := hs1.below ba
  have h0 := hv.c0
  have h1 := hv.c1
  have a0 := (ra.below acc z0).cell0
  have a1 := (ra.below acc z0).cell1
  have a2 := (ra.below acc z0).cell2
  have b0 := (rb.below acc z1).cell0
  have b1 := (rb.below acc z1).cell1
  have b2 := (rb.below acc z1).cell2
  have c0 := (rr.below acc z2).cell0
  have c1 := (rr.below acc z2).cell1
  have c2 := (rr.below acc z2).cell2
  have f0 := (rr.below acc z2).free 0
  have f1 := (rr.below acc z2).free 1
  have f2 := (rr.below acc z2).free 2
  go_wp2_with fail
  generalize (wa.alloc (.cells #[.int .u64 x1,.slice p1 l1 k1] 26)) = wc at acc hs1 ⊢
  clear h0 h1 a0 a1 a2 b0 b1 b2 c0 c1 c2 f0 f1 f2 hv ba
  refine (fr _ _ _ _ wc hs1).mono ?_
  rintro e wb ⟨rfl,hn2,hb2⟩
  have wsc : q + 3 ≤ wc.heap.size := Nat.le_trans wsz acc.size
  replace acc := acc.trans (hb2.mono wsc)
  have r2 := rr.below acc z2
  generalize hD : decide (R < 0) = D at *
  have g3 := r2.set3 (.bool D) (.int .u64 x1) (.slice p1 l1 k1)
  have hbw := hW.trans (acc.mono (by have := hW.size; omega))
  have hB3 := ((hbw.setCell (p := ⟨q + 1 + 1,0,none⟩) hqw (.bool D)).setCell (p := ⟨q + 1 + 1,1,none⟩) hqw (.int .u64 x1)).setCell (p := ⟨q + 1 + 1,2,none⟩) hqw (.slice p1 l1 k1)
  have c0 := r2.cell0
  have c1 := r2.cell1
  have c2 := r2.cell2
  have f0 := r2.free 0
  have f1 := r2.free 1
  have f2 := r2.free 2
  have HD := Lib.hid hD
  clear hD
  go_wp2_with fail
  exact bodyPost_intF Tryz.results20 rfl rfl g3 HD.out.symm (hn2.row3 r2 _ _ _) hB3 hnw
set_option maxRecDepth 100000 in
set_option maxHeartbeats 4000000 in
theorem add_more_trueF (K : Nat) (hK : 1 ≤ K) (hK2 : K ≤ 4294967296) (x : Int) (p : Option Addr) (l c : Nat) (y : Int) (r : Option Addr) (m d : Nat) (n1 n2 R : Int) (w : World) (hx : IsNat w (.agg #[.int .u64 x,.slice p l c]) n1) (hy : IsNat w (.agg #[.int .u64 y,.slice r m d]) n2) (h1K : n1 < pw K) (hle : n2 ≤ n1) (eN : Hid ((if true = true then -(n1 - n2) else n1 - n2) = R)) : Calls Tryz.prog 20 #[.agg #[.bool true,.int .u64 x,.slice p l c],.agg #[.bool false,.int .u64 y,.slice r m d]] w (RetIntF R w) := by
  have mm := fun W (g1 : IsNat W (.agg #[.int .u64 x,.slice p l c]) n1) (g2 : IsNat W (.agg #[.int .u64 y,.slice r m d]) n2) => sub_anyF K hK hK2 _ _ _ _ W g1 g2 h1K hle
  have fr := fun x p l c W (g : IsNat W (.agg #[.int .u64 x,.slice p l c]) (n1 - n2)) => from_S true x p l c (n1 - n2) W g
  rw [eN.out] at fr
  clear eN hle
  have hW : Below w.heap.size w (((w.alloc (.cells #[.bool true,.int .u64 x,.slice p l c] 28)).alloc (.cells #[.bool false,.int .u64 y,.slice r m d] 28)).alloc (.cells #[.bool false,.int .u64 0,.slice none 0 0] 28)) := by go_grown
  have ra := ((Row3.new w (.bool true) (.int .u64 x) (.slice p l c) w.heap.size rfl).alloc (.cells #[.bool false,.int .u64 y,.slice r m d] 28)).alloc (.cells #[.bool false,.int .u64 0,.slice none 0 0] 28)
  have rb := (Row3.new (w.alloc (.cells #[.bool true,.int .u64 x,.slice p l c] 28)) (.bool false) (.int .u64 y) (.slice r m d) (w.heap.size + 1) (by simp)).alloc (.cells #[.bool false,.int .u64 0,.slice none 0 0] 28)
  have rr := Row3.new ((w.alloc (.cells #[.bool true,.int .u64 x,.slice p l c] 28)).alloc (.cells #[.bool false,.int .u64 y,.slice r m d] 28)) (.bool false) (.int .u64 0) (.slice none 0 0) (w.heap.size + 1 + 1) (by simp)
  have hnx := hx.below hW
  have hny := hy.below hW
  have wsz : w.heap.size + 3 ≤ (((w.alloc (.cells #[.bool true,.int .u64 x,.slice p l c] 28)).alloc (.cells #[.bool false,.int .u64 y,.slice r m d] 28)).alloc (.cells #[.bool false,.int .u64 0,.slice none 0 0] 28)).heap.size := by have := rr.lt; omega
  go_enter Tryz.func20,Tryz.ntmps20
  go_wp2_with fail
  generalize (((w.alloc (.cells #[.bool true,.int .u64 x,.slice p l c] 28)).alloc (.cells #[.bool false,.int .u64 y,.slice r m d] 28)).alloc (.cells #[.bool false,.int .u64 0,.slice none 0 0] 28)) = W at hW ra rb rr hnx hny wsz ⊢
  obtain ⟨q,hq⟩ : ∃ q,w.heap.size = q := ⟨_,rfl⟩
  have hqw : w.heap.size ≤ q + 1 + 1 := by omega
  rw [hq] at ra rb rr wsz ⊢
  have z0 : q < q + 3 := by omega
  have z1 : q + 1 < q + 3 := by omega
  have z2 : q + 1 + 1 < q + 3 := by omega
  have d0 : q ≠ q + 1 + 1 := by omega
  have d1 : q + 1 ≠ q + 1 + 1 := by omega
  have acc := Below.refl (q + 3) W
  refine (mm W hnx hny).mono ?_
  rintro e wa ⟨v1,rfl,hs1,hb,hnw⟩
  obtain ⟨x1,p1,l1,k1,rfl⟩ := hs1.shape
  replace hnw := hnw.mono (C := w.heap.size) (by have := hW.size; have := acc.size; omega)
  replace acc := acc.trans (hb.mono wsz)
  have hv := Var.new wa wa.heap.size (.int .u64 x1) p1 l1 k1 rfl
  have ba : Below wa.heap.size wa (wa.alloc (.cells #[.int .u64 x1,.slice p1 l1 k1] 26)) := by go_grown
  have wsa : q + 3 ≤ wa.heap.size := Nat.le_trans wsz acc.size
  replace acc := acc.trans (ba.mono wsa)
  replace hs1 := hs1.below ba
  have h0 := hv.c0
  have h1 := hv.c1
  have a0 := (ra.below acc z0).cell0
  have a1 := (ra.below acc z0).cell1
  have a2 := (ra.below acc z0).cell2
  have b0 := (rb.below acc z1).cell0
  have b1 := (rb.below acc z1).cell1
  have b2 := (rb.below acc z1).cell2
  have c0 := (rr.below acc z2).cell0
  have c1 := (rr.below acc z2).cell1
  have c2 := (rr.below acc z2).cell2
  have f0 := (rr.below acc z2).free 0
  have f1 := (rr.below acc z2).free 1
  have f2 := (rr.below acc z2).free 2
  go_wp2_with fail
  generalize (wa.alloc (.cells #[.int .u64 x1,.slice p1 l1 k1] 26)) = wc at acc hs1 ⊢
  clear h0 h1 a0 a1 a2 b0 b1 b2 c0 c1 c2 f0 f1 f2 hv ba
  refine (fr _ _ _ _ wc hs1).mono ?_
  rintro e wb ⟨rfl,hn2,hb2⟩
  have wsc : q + 3 ≤ wc.heap.size := Nat.le_trans wsz acc.size
  replace acc := acc.trans (hb2.mono wsc)
  have r2 := rr.below acc z2
  generalize hD : decide (R < 0) = D at *
  have g3 := r2.set3 (.bool D) (.int .u64 x1) (.slice p1 l1 k1)
  have hbw := hW.trans (acc.mono (by have := hW.size; omega))
  have hB3 := ((hbw.setCell (p := ⟨q + 1 + 1,0,none⟩) hqw (.bool D)).setCell (p := ⟨q + 1 + 1,1,none⟩) hqw (.int .u64 x1)).setCell (p := ⟨q + 1 + 1,2,none⟩) hqw (.slice p1 l1 k1)
  have c0 := r2.cell0
  have c1 := r2.cell1
  have c2 := r2.cell2
  have f0 := r2.free 0
  have f1 := r2.free 1
  have f2 := r2.free 2
  have HD := Lib.hid hD
  clear hD
  go_wp2_with fail
  exact bodyPost_intF Tryz.results20 rfl rfl g3 HD.out.symm (hn2.row3 r2 _ _ _) hB3 hnw
set_option maxRecDepth 100000 in
set_option maxHeartbeats 4000000 in
theorem add_less_falseF (K : Nat) (hK : 1 ≤ K) (hK2 : K ≤ 4294967296) (x : Int) (p : Option Addr) (l c : Nat) (y : Int) (r : Option Addr) (m d : Nat) (n1 n2 R : Int) (w : World) (hx : IsNat w (.agg #[.int .u64 x,.slice p l c]) n1) (hy : IsNat w (.agg #[.int .u64 y,.slice r m d]) n2) (h2K : n2 < pw K) (hlt : n1 < n2) (hR : Hid (decide (R < 0) = true)) (eN : Hid (absI R = n2 - n1)) : Calls Tryz.prog 20 #[.agg #[.bool false,.int .u64 x,.slice p l c],.agg #[.bool true,.int .u64 y,.slice r m d]] w (RetIntF R w) := by
  have mm := fun W (g1 : IsNat W (.agg #[.int .u64 x,.slice p l c]) n1) (g2 : IsNat W (.agg #[.int .u64 y,.slice r m d]) n2) => sub_none _ _ _ _ W g1 g2 hlt
  have mn := fun W (g1 : IsNat W (.agg #[.int .u64 x,.slice p l c]) n1) (g2 : IsNat W (.agg #[.int .u64 y,.slice r m d]) n2) => sub_anyF K hK hK2 _ _ _ _ W g2 g1 h2K (by omega)
  clear hlt
  have hW : Below w.heap.size w (((w.alloc (.cells #[.bool false,.int .u64 x,.slice p l c] 28)).alloc (.cells #[.bool true,.int .u64 y,.slice r m d] 28)).alloc (.cells #[.bool false,.int .u64 0,.slice none 0 0] 28)) := by go_grown
  have ra := ((Row3.new w (.bool false) (.int .u64 x) (.slice p l c) w.heap.size rfl).alloc (.cells #[.bool true,.int .u64 y,.slice r m d] 28)).alloc (.cells #[.bool false,.int .u64 0,.slice none 0 0] 28)
  have rb := (Row3.new (w.alloc (.cells #[.bool false,.int .u64 x,.slice p l c] 28)) (.bool true) (.int .u64 y) (.slice r m d) (w.heap.size + 1) (by simp)).alloc (.cells #[.bool false,.int .u64 0,.slice none 0 0] 28)
  have rr := Row3.new ((w.alloc (.cells #[.bool false,.int .u64 x,.slice p l c] 28)).alloc (.cells #[.bool true,.int .u64 y,.slice r m d] 28)) (.bool false) (.int .u64 0) (.slice none 0 0) (w.heap.size + 1 + 1) (by simp)
  have hnx := hx.below hW
  have hny := hy.below hW
  have wsz : w.heap.size + 3 ≤ (((w.alloc (.cells #[.bool false,.int .u64 x,.slice p l c] 28)).alloc (.cells #[.bool true,.int .u64 y,.slice r m d] 28)).alloc (.cells #[.bool false,.int .u64 0,.slice none 0 0] 28)).heap.size := by have := rr.lt; omega
  go_enter Tryz.func20,Tryz.ntmps20
  go_wp2_with fail
  generalize (((w.alloc (.cells #[.bool false,.int .u64 x,.slice p l c] 28)).alloc (.cells #[.bool true,.int .u64 y,.slice r m d] 28)).alloc (.cells #[.bool false,.int .u64 0,.slice none 0 0] 28)) = W at hW ra rb rr hnx hny wsz ⊢
  obtain ⟨q,hq⟩ : ∃ q,w.heap.size = q := ⟨_,rfl⟩
  have hqw : w.heap.size ≤ q + 1 + 1 := by omega
  rw [hq] at ra rb rr wsz ⊢
  have z0 : q < q + 3 := by omega
  have z1 : q + 1 < q + 3 := by omega
  have z2 : q + 1 + 1 < q + 3 := by omega
  have d0 : q ≠ q + 1 + 1 := by omega
  have d1 : q + 1 ≠ q + 1 + 1 := by omega
  have acc := Below.refl (q + 3) W
  refine (mm W hnx hny).mono ?_
  rintro e wa ⟨rfl,hb⟩
  have hnxa := hnx.below hb
  have hnya := hny.below hb
  replace acc := acc.trans (hb.mono wsz)
  have ba : Below wa.heap.size wa (wa.alloc (.cells #[.int .u64 0,.slice none 0 0] 26)) := by go_grown
  have wsa : q + 3 ≤ wa.heap.size := Nat.le_trans wsz acc.size
  replace acc := acc.trans (ba.mono wsa)
  replace hnxa := hnxa.below ba
  replace hnya := hnya.below ba
  have a0 := (ra.below acc z0).cell0
  have a1 := (ra.below acc z0).cell1
  have a2 := (ra.below acc z0).cell2
  have b0 := (rb.below acc z1).cell0
  have b1 := (rb.below acc z1).cell1
  have b2 := (rb.below acc z1).cell2
  have c0 := (rr.below acc z2).cell0
  have c1 := (rr.below acc z2).cell1
  have c2 := (rr.below acc z2).cell2
  have f0 := (rr.below acc z2).free 0
  have f1 := (rr.below acc z2).free 1
  have f2 := (rr.below acc z2).free 2
  go_wp2_with fail
  generalize (wa.alloc (.cells #[.int .u64 0,.slice none 0 0] 26)) = wc at acc hnxa hnya ⊢
  clear a0 a1 a2 b0 b1 b2 c0 c1 c2 f0 f1 f2 ba
  refine (mn wc hnxa hnya).mono ?_
  rintro e wd ⟨v1,rfl,hs1,hb2,hnw⟩
  obtain ⟨x1,p1,l1,k1,rfl⟩ := hs1.shape
  replace hnw := hnw.mono (C := w.heap.size) (by have := hW.size; have := acc.size; omega)
  have wsc : q + 3 ≤ wc.heap.size := Nat.le_trans wsz acc.size
  replace acc := acc.trans (hb2.mono wsc)
  have hv := Var.new wd wd.heap.size (.int .u64 x1) p1 l1 k1 rfl
  have bd : Below wd.heap.size wd (wd.alloc (.cells #[.int .u64 x1,.slice p1 l1 k1] 26)) := by go_grown
  have wsd : q + 3 ≤ wd.heap.size := Nat.le_trans wsz acc.size
  replace acc := acc.trans (bd.mono wsd)
  replace hs1 := hs1.below bd
  have h0 := hv.c0
  have h1 := hv.c1
  have a0 := (ra.below acc z0).cell0
  have a1 := (ra.below acc z0).cell1
  have a2 := (ra.below acc z0).cell2
  have b0 := (rb.below acc z1).cell0
  have b1 := (rb.below acc z1).cell1
  have b2 := (rb.below acc z1).cell2
  have c0 := (rr.below acc z2).cell0
  have c1 := (rr.below acc z2).cell1
  have c2 := (rr.below acc z2).cell2
  have f0 := (rr.below acc z2).free 0
  have f1 := (rr.below acc z2).free 1
  have f2 := (rr.below acc z2).free 2
  have r2 := rr.below acc z2
  have g3 := r2.set3 (.bool true) (.int .u64 x1) (.slice p1 l1 k1)
  have hbw := hW.trans (acc.mono (by have := hW.size; omega))
  have hB3 := ((hbw.setCell (p := ⟨q + 1 + 1,0,none⟩) hqw (.bool true)).setCell (p := ⟨q + 1 + 1,1,none⟩) hqw (.int .u64 x1)).setCell (p := ⟨q + 1 + 1,2,none⟩) hqw (.slice p1 l1 k1)
  go_wp2_with fail
  exact bodyPost_intF Tryz.results20 rfl rfl g3 hR.out.symm (by rw [eN.out]; exact hs1.row3 r2 _ _ _) hB3 hnw
set_option maxRecDepth 100000 in
set_option maxHeartbeats 4000000 in
theorem add_less_trueF (K : Nat) (hK : 1 ≤ K) (hK2 : K ≤ 4294967296) (x : Int) (p : Option Addr) (l c : Nat) (y : Int) (r : Option Addr) (m d : Nat) (n1 n2 R : Int) (w : World) (hx : IsNat w (.agg #[.int .u64 x,.slice p l c]) n1) (hy : IsNat w (.agg #[.int .u64 y,.slice r m d]) n2) (h2K : n2 < pw K) (hlt : n1 < n2) (hR : Hid (decide (R < 0) = false)) (eN : Hid (absI R = n2 - n1)) : Calls Tryz.prog 20 #[.agg #[.bool true,.int .u64 x,.slice p l c],.agg #[.bool false,.int .u64 y,.slice r m d]] w (RetIntF R w) := by
  have mm := fun W (g1 : IsNat W (.agg #[.int .u64 x,.slice p l c]) n1) (g2 : IsNat W (.agg #[.int .u64 y,.slice r m d]) n2) => sub_none _ _ _ _ W g1 g2 hlt
  have mn := fun W (g1 : IsNat W (.agg #[.int .u64 x,.slice p l c]) n1) (g2 : IsNat W (.agg #[.int .u64 y,.slice r m d]) n2) => sub_anyF K hK hK2 _ _ _ _ W g2 g1 h2K (by omega)
  clear hlt
  have hW : Below w.heap.size w (((w.alloc (.cells #[.bool true,.int .u64 x,.slice p l c] 28)).alloc (.cells #[.bool false,.int .u64 y,.slice r m d] 28)).alloc (.cells #[.bool false,.int .u64 0,.slice none 0 0] 28)) := by go_grown
  have ra := ((Row3.new w (.bool true) (.int .u64 x) (.slice p l c) w.heap.size rfl).alloc (.cells #[.bool false,.int .u64 y,.slice r m d] 28)).alloc (.cells #[.bool false,.int .u64 0,.slice none 0 0] 28)
  have rb := (Row3.new (w.alloc (.cells #[.bool true,.int .u64 x,.slice p l c] 28)) (.bool false) (.int .u64 y) (.slice r m d) (w.heap.size + 1) (by simp)).alloc (.cells #[.bool false,.int .u64 0,.slice none 0 0] 28)
  have rr := Row3.new ((w.alloc (.cells #[.bool true,.int .u64 x,.slice p l c] 28)).alloc (.cells #[.bool false,.int .u64 y,.slice r m d] 28)) (.bool false) (.int .u64 0) (.slice none 0 0) (w.heap.size + 1 + 1) (by simp)
  have hnx := hx.below hW
  have hny := hy.below hW
  have wsz : w.heap.size + 3 ≤ (((w.alloc (.cells #[.bool true,.int .u64 x,.slice p l c] 28)).alloc (.cells #[.bool false,.int .u64 y,.slice r m d] 28)).alloc (.cells #[.bool false,.int .u64 0,.slice none 0 0] 28)).heap.size := by have := rr.lt; omega
  go_enter Tryz.func20,Tryz.ntmps20
  go_wp2_with fail
  generalize (((w.alloc (.cells #[.bool true,.int .u64 x,.slice p l c] 28)).alloc (.cells #[.bool false,.int .u64 y,.slice r m d] 28)).alloc (.cells #[.bool false,.int .u64 0,.slice none 0 0] 28)) = W at hW ra rb rr hnx hny wsz ⊢
  obtain ⟨q,hq⟩ : ∃ q,w.heap.size = q := ⟨_,rfl⟩
  have hqw : w.heap.size ≤ q + 1 + 1 := by omega
  rw [hq] at ra rb rr wsz ⊢
  have z0 : q < q + 3 := by omega
  have z1 : q + 1 < q + 3 := by omega
  have z2 : q + 1 + 1 < q + 3 := by omega
  have d0 : q ≠ q + 1 + 1 := by omega
  have d1 : q + 1 ≠ q + 1 + 1 := by omega
  have acc := Below.refl (q + 3) W
  refine (mm W hnx hny).mono ?_
  rintro e wa ⟨rfl,hb⟩
  have hnxa := hnx.below hb
  have hnya := hny.below hb
  replace acc := acc.trans (hb.mono wsz)
  have ba : Below wa.heap.size wa (wa.alloc (.cells #[.int .u64 0,.slice none 0 0] 26)) := by go_grown
  have wsa : q + 3 ≤ wa.heap.size := Nat.le_trans wsz acc.size
  replace acc := acc.trans (ba.mono wsa)
  replace hnxa := hnxa.below ba
  replace hnya := hnya.below ba
  have a0 := (ra.below acc z0).cell0
  have a1 := (ra.below acc z0).cell1
  have a2 := (ra.below acc z0).cell2
  have b0 := (rb.below acc z1).cell0
  have b1 := (rb.below acc z1).cell1
  have b2 := (rb.below acc z1).cell2
  have c0 := (rr.below acc z2).cell0
  have c1 := (rr.below acc z2).cell1
  have c2 := (rr.below acc z2).cell2
  have f0 := (rr.below acc z2).free 0
  have f1 := (rr.below acc z2).free 1
  have f2 := (rr.below acc z2).free 2
  go_wp2_with fail
  generalize (wa.alloc (.cells #[.int .u64 0,.slice none 0 0] 26)) = wc at acc hnxa hnya ⊢
  clear a0 a1 a2 b0 b1 b2 c0 c1 c2 f0 f1 f2 ba
  refine (mn wc hnxa hnya).mono ?_
  rintro e wd ⟨v1,rfl,hs1,hb2,hnw⟩
  obtain ⟨x1,p1,l1,k1,rfl⟩ := hs1.shape
  replace hnw := hnw.mono (C := w.heap.size) (by have := hW.size; have := acc.size; omega)
  have wsc : q + 3 ≤ wc.heap.size := Nat.le_trans wsz acc.size
  replace acc := acc.trans (hb2.mono wsc)
  have hv := Var.new wd wd.heap.size (.int .u64 x1) p1 l1 k1 rfl
  have bd : Below wd.heap.size wd (wd.alloc (.cells #[.int .u64 x1,.slice p1 l1 k1] 26)) := by go_grown
  have wsd : q + 3 ≤ wd.heap.size := Nat.le_trans wsz acc.size
  replace acc := acc.trans (bd.mono wsd)
  replace hs1 := hs1.below bd
  have h0 := hv.c0
  have h1 := hv.c1
  have a0 := (ra.below acc z0).cell0
  have a1 := (ra.below acc z0).cell1
  have a2 := (ra.below acc z0).cell2
  have b0 := (rb.below acc z1).cell0
  have b1 := (rb.below acc z1).cell1
  have b2 := (rb.below acc z1).cell2
  have c0 := (rr.below acc z2).cell0
  have c1 := (rr.below acc z2).cell1
  have c2 := (rr.below acc z2).cell2
  have f0 := (rr.below acc z2).free 0
  have f1 := (rr.below acc z2).free 1
  have f2 := (rr.below acc z2).free 2
  have r2 := rr.below acc z2
  have g3 := r2.set3 (.bool false) (.int .u64 x1) (.slice p1 l1 k1)
  have hbw := hW.trans (acc.mono (by have := hW.size; omega))
  have hB3 := ((hbw.setCell (p := ⟨q + 1 + 1,0,none⟩) hqw (.bool false)).setCell (p := ⟨q + 1 + 1,1,none⟩) hqw (.int .u64 x1)).setCell (p := ⟨q + 1 + 1,2,none⟩) hqw (.slice p1 l1 k1)
  go_wp2_with fail
  exact bodyPost_intF Tryz.results20 rfl rfl g3 hR.out.symm (by rw [eN.out]; exact hs1.row3 r2 _ _ _) hB3 hnw
set_option maxRecDepth 100000 in
set_option maxHeartbeats 4000000 in
theorem add_intF (K : Nat) (hK : 1 ≤ K) (hK2 : K ≤ 4294967296) (va vb : Value) (a b : Int) (w : World) (ha : IsInt w va a) (hb : IsInt w vb b) (haK : absI a < pw K) (hbK : absI b < pw K) : Calls Tryz.prog 20 #[va,vb] w (RetIntF (a + b) w) := by
  obtain ⟨x,p,l,c,rfl,hx⟩ := ha
  obtain ⟨y,r,m,d,rfl,hy⟩ := hb
  have h1 := absI_nonneg a
  have h2 := absI_nonneg b
  by_cases a0 : a < 0 <;> by_cases b0 : b < 0
  · have ea : absI a = -a := by unfold absI; rw [if_pos a0]
    have eb : absI b = -b := by unfold absI; rw [if_pos b0]
    rw [decide_eq_true a0,decide_eq_true b0]
    exact add_same_trueF K hK2 x p l c y r m d _ _ (a + b) w hx hy haK hbK (Lib.hid (decide_eq_true (by omega))) (Lib.hid (by rw [ea,eb]; unfold absI; rw [if_pos (by omega)]; omega))
  · have ea : absI a = -a := by unfold absI; rw [if_pos a0]
    have eb : absI b = b := by unfold absI; rw [if_neg b0]
    rw [decide_eq_true a0,decide_eq_false b0]
    by_cases hle : absI b ≤ absI a
    · exact add_more_trueF K hK hK2 x p l c y r m d _ _ (a + b) w hx hy haK hle (Lib.hid (by rw [ea,eb,if_pos rfl]; omega))
    · exact add_less_trueF K hK hK2 x p l c y r m d _ _ (a + b) w hx hy hbK (by omega) (Lib.hid (decide_eq_false (by omega))) (Lib.hid (by rw [ea,eb]; unfold absI; rw [if_neg (by omega)]; omega))
  · have ea : absI a = a := by unfold absI; rw [if_neg a0]
    have eb : absI b = -b := by unfold absI; rw [if_pos b0]
    rw [decide_eq_false a0,decide_eq_true b0]
    by_cases hle : absI b ≤ absI a
    · exact add_more_falseF K hK hK2 x p l c y r m d _ _ (a + b) w hx hy haK hle (Lib.hid (by rw [ea,eb,if_neg (by decide)]; omega))
    · exact add_less_falseF K hK hK2 x p l c y r m d _ _ (a + b) w hx hy hbK (by omega) (Lib.hid (decide_eq_true (by omega))) (Lib.hid (by rw [ea,eb]; unfold absI; rw [if_pos (by omega)]; omega))
  · have ea : absI a = a := by unfold absI; rw [if_neg a0]
    have eb : absI b = b := by unfold absI; rw [if_neg b0]
    rw [decide_eq_false a0,decide_eq_false b0]
    exact add_same_falseF K hK2 x p l c y r m d _ _ (a + b) w hx hy haK hbK (Lib.hid (decide_eq_false (by omega))) (Lib.hid (by rw [ea,eb]; unfold absI; rw [if_neg (by omega)]))
/-- The value v is a pair of whole numbers, whose words lie in blocks from B on. -/
def IsPairF (B : Nat) (w : World) (v : Value) (a b : Int) : Prop := ∃ u p l c x r m d,v = .agg #[.bool (decide (a < 0)),.int .u64 u,.slice p l c,.bool (decide (b < 0)),.int .u64 x,.slice r m d] ∧ IsNat w (.agg #[.int .u64 u,.slice p l c]) (absI a) ∧ IsNat w (.agg #[.int .u64 x,.slice r m d]) (absI b) ∧ NewI B (.agg #[.bool (decide (a < 0)),.int .u64 u,.slice p l c]) ∧ NewI B (.agg #[.bool (decide (b < 0)),.int .u64 x,.slice r m d])
set_option maxRecDepth 100000 in
set_option maxHeartbeats 4000000 in
theorem by_pairF (K : Nat) (hK : 1 ≤ K) (hK2 : K < 40) (P0 P1 A0 A1 B0 B1 : Int) (x0 x1 y0 y1 z0 z1 : Int) (p0 p1 q0 q1 r0 r1 : Option Addr) (l0 l1 m0 m1 n0 n1 c0 c1 d0 d1 e0 e1 : Nat) (w : World)
    (hp0 : IsInt w (.agg #[.bool (decide (P0 < 0)),.int .u64 x0,.slice p0 l0 c0]) P0) (hp1 : IsInt w (.agg #[.bool (decide (P1 < 0)),.int .u64 x1,.slice p1 l1 c1]) P1)
    (ha0 : IsInt w (.agg #[.bool (decide (A0 < 0)),.int .u64 y0,.slice q0 m0 d0]) A0) (ha1 : IsInt w (.agg #[.bool (decide (A1 < 0)),.int .u64 y1,.slice q1 m1 d1]) A1)
    (hb0 : IsInt w (.agg #[.bool (decide (B0 < 0)),.int .u64 z0,.slice r0 n0 e0]) B0) (hb1 : IsInt w (.agg #[.bool (decide (B1 < 0)),.int .u64 z1,.slice r1 n1 e1]) B1)
    (kp0 : absI P0 < pw K) (kp1 : absI P1 < pw K) (ka0 : absI A0 < pw K) (ka1 : absI A1 < pw K) (kb0 : absI B0 < pw K) (kb1 : absI B1 < pw K) :
    Calls Tryz.prog 33 #[.agg #[.bool (decide (P0 < 0)),.int .u64 x0,.slice p0 l0 c0,.bool (decide (P1 < 0)),.int .u64 x1,.slice p1 l1 c1],
      .agg #[.bool (decide (A0 < 0)),.int .u64 y0,.slice q0 m0 d0,.bool (decide (A1 < 0)),.int .u64 y1,.slice q1 m1 d1,.bool (decide (B0 < 0)),.int .u64 z0,.slice r0 n0 e0,.bool (decide (B1 < 0)),.int .u64 z1,.slice r1 n1 e1]] w
      fun e w' => ∃ v,e = .returned v ∧ IsPairF w.heap.size w' v (P0 * A0 + P1 * A1) (P0 * B0 + P1 * B1) ∧ Below w.heap.size w w' := by
  generalize decide (P0 < 0) = s0 at *
  generalize decide (P1 < 0) = s1 at *
  generalize decide (A0 < 0) = t0 at *
  generalize decide (A1 < 0) = t1 at *
  generalize decide (B0 < 0) = u0 at *
  generalize decide (B1 < 0) = u1 at *
  have hW : Below w.heap.size w ((((w.alloc (.cells #[.bool s0,.int .u64 x0,.slice p0 l0 c0,.bool s1,.int .u64 x1,.slice p1 l1 c1] 70)).alloc (.cells #[.bool t0,.int .u64 y0,.slice q0 m0 d0,.bool t1,.int .u64 y1,.slice q1 m1 d1,.bool u0,.int .u64 z0,.slice r0 n0 e0,.bool u1,.int .u64 z1,.slice r1 n1 e1] 73)).alloc (.cells #[.bool false,.int .u64 0,.slice none 0 0,.bool false,.int .u64 0,.slice none 0 0] 70)).alloc (.cells #[.bool false,.int .u64 0,.slice none 0 0,.bool false,.int .u64 0,.slice none 0 0] 70)) := by go_grown
  have ix0 : ∀ w : World,(Instr.index 73 (.agg #[.bool t0,.int .u64 y0,.slice q0 m0 d0,.bool t1,.int .u64 y1,.slice q1 m1 d1,.bool u0,.int .u64 z0,.slice r0 n0 e0,.bool u1,.int .u64 z1,.slice r1 n1 e1]) (.int .i64 0)).run Tryz.prog w = .ok (.agg #[.bool t0,.int .u64 y0,.slice q0 m0 d0,.bool t1,.int .u64 y1,.slice q1 m1 d1]) w := fun _ => by kernel_rfl
  have ix1 : ∀ w : World,(Instr.index 73 (.agg #[.bool t0,.int .u64 y0,.slice q0 m0 d0,.bool t1,.int .u64 y1,.slice q1 m1 d1,.bool u0,.int .u64 z0,.slice r0 n0 e0,.bool u1,.int .u64 z1,.slice r1 n1 e1]) (.int .i64 1)).run Tryz.prog w = .ok (.agg #[.bool u0,.int .u64 z0,.slice r0 n0 e0,.bool u1,.int .u64 z1,.slice r1 n1 e1]) w := fun _ => by kernel_rfl
  have rP : Row6 ((((w.alloc (.cells #[.bool s0,.int .u64 x0,.slice p0 l0 c0,.bool s1,.int .u64 x1,.slice p1 l1 c1] 70)).alloc (.cells #[.bool t0,.int .u64 y0,.slice q0 m0 d0,.bool t1,.int .u64 y1,.slice q1 m1 d1,.bool u0,.int .u64 z0,.slice r0 n0 e0,.bool u1,.int .u64 z1,.slice r1 n1 e1] 73)).alloc (.cells #[.bool false,.int .u64 0,.slice none 0 0,.bool false,.int .u64 0,.slice none 0 0] 70)).alloc (.cells #[.bool false,.int .u64 0,.slice none 0 0,.bool false,.int .u64 0,.slice none 0 0] 70)) w.heap.size 70 (.bool s0) (.int .u64 x0) (.slice p0 l0 c0) (.bool s1) (.int .u64 x1) (.slice p1 l1 c1) := (heap_old _ _ _ (by simp; omega)).trans ((heap_old _ _ _ (by simp; omega)).trans ((heap_old _ _ _ (by simp)).trans (heap_new _ _ _ rfl)))
  have rR : Row6 ((((w.alloc (.cells #[.bool s0,.int .u64 x0,.slice p0 l0 c0,.bool s1,.int .u64 x1,.slice p1 l1 c1] 70)).alloc (.cells #[.bool t0,.int .u64 y0,.slice q0 m0 d0,.bool t1,.int .u64 y1,.slice q1 m1 d1,.bool u0,.int .u64 z0,.slice r0 n0 e0,.bool u1,.int .u64 z1,.slice r1 n1 e1] 73)).alloc (.cells #[.bool false,.int .u64 0,.slice none 0 0,.bool false,.int .u64 0,.slice none 0 0] 70)).alloc (.cells #[.bool false,.int .u64 0,.slice none 0 0,.bool false,.int .u64 0,.slice none 0 0] 70)) (w.heap.size + 1 + 1) 70 (.bool false) (.int .u64 0) (.slice none 0 0) (.bool false) (.int .u64 0) (.slice none 0 0) := (heap_old _ _ _ (by simp)).trans (heap_new _ _ _ (by simp))
  have rB : Row6 ((((w.alloc (.cells #[.bool s0,.int .u64 x0,.slice p0 l0 c0,.bool s1,.int .u64 x1,.slice p1 l1 c1] 70)).alloc (.cells #[.bool t0,.int .u64 y0,.slice q0 m0 d0,.bool t1,.int .u64 y1,.slice q1 m1 d1,.bool u0,.int .u64 z0,.slice r0 n0 e0,.bool u1,.int .u64 z1,.slice r1 n1 e1] 73)).alloc (.cells #[.bool false,.int .u64 0,.slice none 0 0,.bool false,.int .u64 0,.slice none 0 0] 70)).alloc (.cells #[.bool false,.int .u64 0,.slice none 0 0,.bool false,.int .u64 0,.slice none 0 0] 70)) (w.heap.size + 1 + 1 + 1) 70 (.bool false) (.int .u64 0) (.slice none 0 0) (.bool false) (.int .u64 0) (.slice none 0 0) := heap_new _ _ _ (by simp)
  go_enter Tryz.func33,Tryz.ntmps33
  go_wp2_with fail
  generalize ((((w.alloc (.cells #[.bool s0,.int .u64 x0,.slice p0 l0 c0,.bool s1,.int .u64 x1,.slice p1 l1 c1] 70)).alloc (.cells #[.bool t0,.int .u64 y0,.slice q0 m0 d0,.bool t1,.int .u64 y1,.slice q1 m1 d1,.bool u0,.int .u64 z0,.slice r0 n0 e0,.bool u1,.int .u64 z1,.slice r1 n1 e1] 73)).alloc (.cells #[.bool false,.int .u64 0,.slice none 0 0,.bool false,.int .u64 0,.slice none 0 0] 70)).alloc (.cells #[.bool false,.int .u64 0,.slice none 0 0,.bool false,.int .u64 0,.slice none 0 0] 70)) = W at hW rP rR rB ⊢
  obtain ⟨q,hq⟩ : ∃ q,w.heap.size = q := ⟨_,rfl⟩
  rw [hq] at rP rR rB ⊢
  go_loopg [9] 2 (fun g i wr => Below w.heap.size w wr ∧ Row6 wr q 70 (.bool s0) (.int .u64 x0) (.slice p0 l0 c0) (.bool s1) (.int .u64 x1) (.slice p1 l1 c1) ∧ Row6 wr (q + 1 + 1) 70 (.bool false) (.int .u64 0) (.slice none 0 0) (.bool false) (.int .u64 0) (.slice none 0 0) ∧ ((g = 2 ∧ i = .int .i64 0 ∧ Row6 wr (q + 1 + 1 + 1) 70 (.bool false) (.int .u64 0) (.slice none 0 0) (.bool false) (.int .u64 0) (.slice none 0 0)) ∨ (∃ u p l c,(g = 1 ∧ i = .int .i64 1 ∧ Row6 wr (q + 1 + 1 + 1) 70 (.bool (decide (P0 * A0 + P1 * A1 < 0))) (.int .u64 u) (.slice p l c) (.bool false) (.int .u64 0) (.slice none 0 0) ∧ IsNat wr (.agg #[.int .u64 u,.slice p l c]) (absI (P0 * A0 + P1 * A1)) ∧ NewI w.heap.size (.agg #[.bool (decide (P0 * A0 + P1 * A1 < 0)),.int .u64 u,.slice p l c]))) ∨ (∃ u p l c x r m d,g = 0 ∧ i = .int .i64 2 ∧ Row6 wr (q + 1 + 1 + 1) 70 (.bool (decide (P0 * A0 + P1 * A1 < 0))) (.int .u64 u) (.slice p l c) (.bool (decide (P0 * B0 + P1 * B1 < 0))) (.int .u64 x) (.slice r m d) ∧ IsNat wr (.agg #[.int .u64 u,.slice p l c]) (absI (P0 * A0 + P1 * A1)) ∧ IsNat wr (.agg #[.int .u64 x,.slice r m d]) (absI (P0 * B0 + P1 * B1)) ∧ NewI w.heap.size (.agg #[.bool (decide (P0 * A0 + P1 * A1 < 0)),.int .u64 u,.slice p l c]) ∧ NewI w.heap.size (.agg #[.bool (decide (P0 * B0 + P1 * B1 < 0)),.int .u64 x,.slice r m d]))))
  case atStart => exact ⟨hW,rP,rR,.inl ⟨rfl,rfl,rB⟩⟩
  case round =>
    obtain ⟨hB,hP,hR,⟨rfl,rfl,hr⟩ | ⟨u,p,l,c,rfl,rfl,hr,hn,hw1⟩ | ⟨u,p,l,c,x,r,m,d,rfl,rfl,hr,hn,hn2,hw1,hw2⟩⟩ := hrel
    · have lbe : q + 1 + 1 + 1 < wr.heap.size := hr.lt
      have rP := hP.alloc (.cells #[.bool t0,.int .u64 y0,.slice q0 m0 d0,.bool t1,.int .u64 y1,.slice q1 m1 d1] 69)
      have rB := hr.alloc (.cells #[.bool t0,.int .u64 y0,.slice q0 m0 d0,.bool t1,.int .u64 y1,.slice q1 m1 d1] 69)
      have rR := hR.alloc (.cells #[.bool t0,.int .u64 y0,.slice q0 m0 d0,.bool t1,.int .u64 y1,.slice q1 m1 d1] 69)
      have rL : Row6 (wr.alloc (.cells #[.bool t0,.int .u64 y0,.slice q0 m0 d0,.bool t1,.int .u64 y1,.slice q1 m1 d1] 69)) wr.heap.size 69 (.bool t0) (.int .u64 y0) (.slice q0 m0 d0) (.bool t1) (.int .u64 y1) (.slice q1 m1 d1) := heap_new wr _ _ rfl
      have hB5 := hB.trans (below_new6 wr (.cells #[.bool t0,.int .u64 y0,.slice q0 m0 d0,.bool t1,.int .u64 y1,.slice q1 m1 d1] 69) hB.size)
      clear hP hr hR hB
      go_wp2_with fail
      generalize (wr.alloc (.cells #[.bool t0,.int .u64 y0,.slice q0 m0 d0,.bool t1,.int .u64 y1,.slice q1 m1 d1] 69)) = W5 at rP rB rR rL hB5  ⊢
      generalize wr.heap.size = lb at rL lbe ⊢
      have mulA : ∀ W',Below W5.heap.size W5 W' → Calls Tryz.prog 19 #[.agg #[.bool s0,.int .u64 x0,.slice p0 l0 c0],.agg #[.bool t0,.int .u64 y0,.slice q0 m0 d0]] W' (RetInt (P0 * A0) W') := fun W' hb => mul_int K hK hK2 _ _ P0 A0 W' ((hp0.belowB hB5).below hb) ((ha0.belowB hB5).below hb) kp0 ka0
      have mulB : ∀ W',Below W5.heap.size W5 W' → Calls Tryz.prog 19 #[.agg #[.bool s1,.int .u64 x1,.slice p1 l1 c1],.agg #[.bool t1,.int .u64 y1,.slice q1 m1 d1]] W' (RetInt (P1 * A1) W') := fun W' hb => mul_int K hK hK2 _ _ P1 A1 W' ((hp1.belowB hB5).below hb) ((ha1.belowB hB5).below hb) kp1 ka1
      have addC : ∀ va vb W',IsInt W' va (P0 * A0) → IsInt W' vb (P1 * A1) → Calls Tryz.prog 20 #[va,vb] W' (RetIntF (P0 * A0 + P1 * A1) W') := fun va vb W' h1 h2 => add_intF (K + K) (by omega) (by omega) va vb _ _ W' h1 h2 (absI_mul_lt kp0 ka0) (absI_mul_lt kp1 ka1)
      obtain ⟨R,hRe⟩ : ∃ R,P0 * A0 + P1 * A1 = R := ⟨_,rfl⟩
      rw [hRe] at addC
      have HR := Lib.hid hRe
      clear hRe
      generalize P0 * A0 = M0 at mulA addC
      generalize P1 * A1 = M1 at mulB addC
      have zP := rP.lt
      have zL := rL.lt
      have zB := rB.lt
      have zR := rR.lt
      have dP : q ≠ q + 1 + 1 + 1 := by omega
      have dR : q + 1 + 1 ≠ q + 1 + 1 + 1 := by omega
      have hqw : w.heap.size ≤ q + 1 + 1 + 1 := by omega
      have dL : lb ≠ q + 1 + 1 + 1 := by omega
      have acc := Below.refl W5.heap.size W5
      have a0 := (rP.below acc zP).cell0
      have a1 := (rP.below acc zP).cell1
      have a2 := (rP.below acc zP).cell2
      have a3 := (rP.below acc zP).cell3
      have a4 := (rP.below acc zP).cell4
      have a5 := (rP.below acc zP).cell5
      have b0 := (rL.below acc zL).cell0
      have b1 := (rL.below acc zL).cell1
      have b2 := (rL.below acc zL).cell2
      have b3 := (rL.below acc zL).cell3
      have b4 := (rL.below acc zL).cell4
      have b5 := (rL.below acc zL).cell5
      have g0 := (rB.below acc zB).cell0
      have g1 := (rB.below acc zB).cell1
      have g2 := (rB.below acc zB).cell2
      have f0 := (rB.below acc zB).free 0
      have f1 := (rB.below acc zB).free 1
      have f2 := (rB.below acc zB).free 2
      go_region_held3 (fun w' => w'.cell? ⟨q,0,none⟩ = some (.bool s0) ∧ w'.cell? ⟨q,1,none⟩ = some (.int .u64 x0) ∧ w'.cell? ⟨q,2,none⟩ = some (.slice p0 l0 c0) ∧ w'.cell? ⟨q,3,none⟩ = some (.bool s1) ∧ w'.cell? ⟨q,4,none⟩ = some (.int .u64 x1) ∧ w'.cell? ⟨q,5,none⟩ = some (.slice p1 l1 c1) ∧ w'.cell? ⟨lb,0,none⟩ = some (.bool t0) ∧ w'.cell? ⟨lb,1,none⟩ = some (.int .u64 y0) ∧ w'.cell? ⟨lb,2,none⟩ = some (.slice q0 m0 d0) ∧ w'.cell? ⟨lb,3,none⟩ = some (.bool t1) ∧ w'.cell? ⟨lb,4,none⟩ = some (.int .u64 y1) ∧ w'.cell? ⟨lb,5,none⟩ = some (.slice q1 m1 d1))
        (first | with_reducible exact ⟨(rP.below acc zP).cell0,(rP.below acc zP).cell1,(rP.below acc zP).cell2,(rP.below acc zP).cell3,(rP.below acc zP).cell4,(rP.below acc zP).cell5,(rL.below acc zL).cell0,(rL.below acc zL).cell1,(rL.below acc zL).cell2,(rL.below acc zL).cell3,(rL.below acc zL).cell4,(rL.below acc zL).cell5⟩ | with_reducible exact ⟨(rP.below acc zP).drew.cell0,(rP.below acc zP).drew.cell1,(rP.below acc zP).drew.cell2,(rP.below acc zP).drew.cell3,(rP.below acc zP).drew.cell4,(rP.below acc zP).drew.cell5,(rL.below acc zL).drew.cell0,(rL.below acc zL).drew.cell1,(rL.below acc zL).drew.cell2,(rL.below acc zL).drew.cell3,(rL.below acc zL).drew.cell4,(rL.below acc zL).drew.cell5⟩ | with_reducible exact ⟨((((rP.below acc zP).other (a := ⟨q + 1 + 1 + 1,0,none⟩) dP _).other (a := ⟨q + 1 + 1 + 1,1,none⟩) dP _).other (a := ⟨q + 1 + 1 + 1,2,none⟩) dP _).cell0,((((rP.below acc zP).other (a := ⟨q + 1 + 1 + 1,0,none⟩) dP _).other (a := ⟨q + 1 + 1 + 1,1,none⟩) dP _).other (a := ⟨q + 1 + 1 + 1,2,none⟩) dP _).cell1,((((rP.below acc zP).other (a := ⟨q + 1 + 1 + 1,0,none⟩) dP _).other (a := ⟨q + 1 + 1 + 1,1,none⟩) dP _).other (a := ⟨q + 1 + 1 + 1,2,none⟩) dP _).cell2,((((rP.below acc zP).other (a := ⟨q + 1 + 1 + 1,0,none⟩) dP _).other (a := ⟨q + 1 + 1 + 1,1,none⟩) dP _).other (a := ⟨q + 1 + 1 + 1,2,none⟩) dP _).cell3,((((rP.below acc zP).other (a := ⟨q + 1 + 1 + 1,0,none⟩) dP _).other (a := ⟨q + 1 + 1 + 1,1,none⟩) dP _).other (a := ⟨q + 1 + 1 + 1,2,none⟩) dP _).cell4,((((rP.below acc zP).other (a := ⟨q + 1 + 1 + 1,0,none⟩) dP _).other (a := ⟨q + 1 + 1 + 1,1,none⟩) dP _).other (a := ⟨q + 1 + 1 + 1,2,none⟩) dP _).cell5,((((rL.below acc zL).other (a := ⟨q + 1 + 1 + 1,0,none⟩) dL _).other (a := ⟨q + 1 + 1 + 1,1,none⟩) dL _).other (a := ⟨q + 1 + 1 + 1,2,none⟩) dL _).cell0,((((rL.below acc zL).other (a := ⟨q + 1 + 1 + 1,0,none⟩) dL _).other (a := ⟨q + 1 + 1 + 1,1,none⟩) dL _).other (a := ⟨q + 1 + 1 + 1,2,none⟩) dL _).cell1,((((rL.below acc zL).other (a := ⟨q + 1 + 1 + 1,0,none⟩) dL _).other (a := ⟨q + 1 + 1 + 1,1,none⟩) dL _).other (a := ⟨q + 1 + 1 + 1,2,none⟩) dL _).cell2,((((rL.below acc zL).other (a := ⟨q + 1 + 1 + 1,0,none⟩) dL _).other (a := ⟨q + 1 + 1 + 1,1,none⟩) dL _).other (a := ⟨q + 1 + 1 + 1,2,none⟩) dL _).cell3,((((rL.below acc zL).other (a := ⟨q + 1 + 1 + 1,0,none⟩) dL _).other (a := ⟨q + 1 + 1 + 1,1,none⟩) dL _).other (a := ⟨q + 1 + 1 + 1,2,none⟩) dL _).cell4,((((rL.below acc zL).other (a := ⟨q + 1 + 1 + 1,0,none⟩) dL _).other (a := ⟨q + 1 + 1 + 1,1,none⟩) dL _).other (a := ⟨q + 1 + 1 + 1,2,none⟩) dL _).cell5⟩)
        (first
          | (go_at_call 19; (first | (have q1 := mulA _ acc; (with_reducible refine q1.mono ?_); clear q1) | (have q1 := mulA _ acc.drew; (with_reducible refine q1.mono ?_); clear q1)); rintro e wa ⟨v1,rfl,h1,hb⟩; (first | replace h2 := h2.below hb | replace h2 := h2.drew.below hb | skip); (first | replace acc := below_acc acc acc.size hb | replace acc := below_accD acc acc.size hb); have a0 := (rP.below acc zP).cell0; have a1 := (rP.below acc zP).cell1; have a2 := (rP.below acc zP).cell2; have a3 := (rP.below acc zP).cell3; have a4 := (rP.below acc zP).cell4; have a5 := (rP.below acc zP).cell5; have b0 := (rL.below acc zL).cell0; have b1 := (rL.below acc zL).cell1; have b2 := (rL.below acc zL).cell2; have b3 := (rL.below acc zL).cell3; have b4 := (rL.below acc zL).cell4; have b5 := (rL.below acc zL).cell5; have g0 := (rB.below acc zB).cell0; have g1 := (rB.below acc zB).cell1; have g2 := (rB.below acc zB).cell2; have f0 := (rB.below acc zB).free 0; have f1 := (rB.below acc zB).free 1; have f2 := (rB.below acc zB).free 2; clear hb)
          | (go_at_call 19; (first | (have q1 := mulB _ acc; (with_reducible refine q1.mono ?_); clear q1) | (have q1 := mulB _ acc.drew; (with_reducible refine q1.mono ?_); clear q1)); rintro e wb ⟨v2,rfl,h2,hb⟩; (first | replace h1 := h1.below hb | replace h1 := h1.drew.below hb | skip); (first | replace acc := below_acc acc acc.size hb | replace acc := below_accD acc acc.size hb); have a0 := (rP.below acc zP).cell0; have a1 := (rP.below acc zP).cell1; have a2 := (rP.below acc zP).cell2; have a3 := (rP.below acc zP).cell3; have a4 := (rP.below acc zP).cell4; have a5 := (rP.below acc zP).cell5; have b0 := (rL.below acc zL).cell0; have b1 := (rL.below acc zL).cell1; have b2 := (rL.below acc zL).cell2; have b3 := (rL.below acc zL).cell3; have b4 := (rL.below acc zL).cell4; have b5 := (rL.below acc zL).cell5; have g0 := (rB.below acc zB).cell0; have g1 := (rB.below acc zB).cell1; have g2 := (rB.below acc zB).cell2; have f0 := (rB.below acc zB).free 0; have f1 := (rB.below acc zB).free 1; have f2 := (rB.below acc zB).free 2; clear hb)
          | (go_at_call 20; (first | (have q1 := addC _ _ _ h1 h2; (with_reducible refine q1.mono ?_); clear q1) | (have q1 := addC _ _ _ h1.drew h2.drew; (with_reducible refine q1.mono ?_); clear q1)); rintro e wc ⟨v3,rfl,⟨x3,p3,l3,c3,rfl,hn3⟩,hb,hnw⟩; replace hnw := hnw.mono (C := w.heap.size) (Nat.le_trans hB5.size acc.size); (first | replace acc := below_acc acc acc.size hb | replace acc := below_accD acc acc.size hb); have a0 := (rP.below acc zP).cell0; have a1 := (rP.below acc zP).cell1; have a2 := (rP.below acc zP).cell2; have a3 := (rP.below acc zP).cell3; have a4 := (rP.below acc zP).cell4; have a5 := (rP.below acc zP).cell5; have b0 := (rL.below acc zL).cell0; have b1 := (rL.below acc zL).cell1; have b2 := (rL.below acc zL).cell2; have b3 := (rL.below acc zL).cell3; have b4 := (rL.below acc zL).cell4; have b5 := (rL.below acc zL).cell5; have g0 := (rB.below acc zB).cell0; have g1 := (rB.below acc zB).cell1; have g2 := (rB.below acc zB).cell2; have f0 := (rB.below acc zB).free 0; have f1 := (rB.below acc zB).free 1; have f2 := (rB.below acc zB).free 2; clear hb))
      all_goals
        have gB := (rB.below acc zB).set0 (.bool (decide (R < 0))) (.int .u64 x3) (.slice p3 l3 c3)
        have gP := ((((rP.below acc zP).other (a := ⟨q + 1 + 1 + 1,0,none⟩) dP (.bool (decide (R < 0)))).other (a := ⟨q + 1 + 1 + 1,1,none⟩) dP (.int .u64 x3)).other (a := ⟨q + 1 + 1 + 1,2,none⟩) dP (.slice p3 l3 c3))
        have gR := ((((rR.below acc zR).other (a := ⟨q + 1 + 1 + 1,0,none⟩) dR (.bool (decide (R < 0)))).other (a := ⟨q + 1 + 1 + 1,1,none⟩) dR (.int .u64 x3)).other (a := ⟨q + 1 + 1 + 1,2,none⟩) dR (.slice p3 l3 c3))
        have gn := hn3.sets (rB.below acc zB).cell2 0 1 2 (.bool (decide (R < 0))) (.int .u64 x3) (.slice p3 l3 c3)
        have gW := (((hB5.trans (acc.mono hB5.size)).setCell (p := ⟨q + 1 + 1 + 1,0,none⟩) hqw (.bool (decide (R < 0)))).setCell (p := ⟨q + 1 + 1 + 1,1,none⟩) hqw (.int .u64 x3)).setCell (p := ⟨q + 1 + 1 + 1,2,none⟩) hqw (.slice p3 l3 c3)
        go_wp2_with fail
        go_roundg 1
        case measure => omega
        case rel => exact ⟨gW,gP,gR,.inr (.inl ⟨x3,p3,l3,c3,rfl,rfl,by rw [HR.out]; exact gB,by rw [HR.out]; exact gn,by rw [HR.out]; exact hnw⟩)⟩
    · have lbe : q + 1 + 1 + 1 < wr.heap.size := hr.lt
      have rP := hP.alloc (.cells #[.bool u0,.int .u64 z0,.slice r0 n0 e0,.bool u1,.int .u64 z1,.slice r1 n1 e1] 69)
      have rB := hr.alloc (.cells #[.bool u0,.int .u64 z0,.slice r0 n0 e0,.bool u1,.int .u64 z1,.slice r1 n1 e1] 69)
      have rR := hR.alloc (.cells #[.bool u0,.int .u64 z0,.slice r0 n0 e0,.bool u1,.int .u64 z1,.slice r1 n1 e1] 69)
      have rL : Row6 (wr.alloc (.cells #[.bool u0,.int .u64 z0,.slice r0 n0 e0,.bool u1,.int .u64 z1,.slice r1 n1 e1] 69)) wr.heap.size 69 (.bool u0) (.int .u64 z0) (.slice r0 n0 e0) (.bool u1) (.int .u64 z1) (.slice r1 n1 e1) := heap_new wr _ _ rfl
      have hB5 := hB.trans (below_new6 wr (.cells #[.bool u0,.int .u64 z0,.slice r0 n0 e0,.bool u1,.int .u64 z1,.slice r1 n1 e1] 69) hB.size)
      have hn5 := hn.below (below_new6 wr (.cells #[.bool u0,.int .u64 z0,.slice r0 n0 e0,.bool u1,.int .u64 z1,.slice r1 n1 e1] 69) (Nat.le_refl _))
      clear hP hr hR hB
      go_wp2_with fail
      generalize (wr.alloc (.cells #[.bool u0,.int .u64 z0,.slice r0 n0 e0,.bool u1,.int .u64 z1,.slice r1 n1 e1] 69)) = W5 at rP rB rR rL hB5 hn5 ⊢
      generalize wr.heap.size = lb at rL lbe ⊢
      have mulA : ∀ W',Below W5.heap.size W5 W' → Calls Tryz.prog 19 #[.agg #[.bool s0,.int .u64 x0,.slice p0 l0 c0],.agg #[.bool u0,.int .u64 z0,.slice r0 n0 e0]] W' (RetInt (P0 * B0) W') := fun W' hb => mul_int K hK hK2 _ _ P0 B0 W' ((hp0.belowB hB5).below hb) ((hb0.belowB hB5).below hb) kp0 kb0
      have mulB : ∀ W',Below W5.heap.size W5 W' → Calls Tryz.prog 19 #[.agg #[.bool s1,.int .u64 x1,.slice p1 l1 c1],.agg #[.bool u1,.int .u64 z1,.slice r1 n1 e1]] W' (RetInt (P1 * B1) W') := fun W' hb => mul_int K hK hK2 _ _ P1 B1 W' ((hp1.belowB hB5).below hb) ((hb1.belowB hB5).below hb) kp1 kb1
      have addC : ∀ va vb W',IsInt W' va (P0 * B0) → IsInt W' vb (P1 * B1) → Calls Tryz.prog 20 #[va,vb] W' (RetIntF (P0 * B0 + P1 * B1) W') := fun va vb W' h1 h2 => add_intF (K + K) (by omega) (by omega) va vb _ _ W' h1 h2 (absI_mul_lt kp0 kb0) (absI_mul_lt kp1 kb1)
      obtain ⟨R,hRe⟩ : ∃ R,P0 * B0 + P1 * B1 = R := ⟨_,rfl⟩
      rw [hRe] at addC
      have HR := Lib.hid hRe
      clear hRe
      generalize P0 * B0 = M0 at mulA addC
      generalize P1 * B1 = M1 at mulB addC
      have zP := rP.lt
      have zL := rL.lt
      have zB := rB.lt
      have zR := rR.lt
      have dP : q ≠ q + 1 + 1 + 1 := by omega
      have dR : q + 1 + 1 ≠ q + 1 + 1 + 1 := by omega
      have hqw : w.heap.size ≤ q + 1 + 1 + 1 := by omega
      have dL : lb ≠ q + 1 + 1 + 1 := by omega
      have acc := Below.refl W5.heap.size W5
      have a0 := (rP.below acc zP).cell0
      have a1 := (rP.below acc zP).cell1
      have a2 := (rP.below acc zP).cell2
      have a3 := (rP.below acc zP).cell3
      have a4 := (rP.below acc zP).cell4
      have a5 := (rP.below acc zP).cell5
      have b0 := (rL.below acc zL).cell0
      have b1 := (rL.below acc zL).cell1
      have b2 := (rL.below acc zL).cell2
      have b3 := (rL.below acc zL).cell3
      have b4 := (rL.below acc zL).cell4
      have b5 := (rL.below acc zL).cell5
      have g3 := (rB.below acc zB).cell3
      have g4 := (rB.below acc zB).cell4
      have g5 := (rB.below acc zB).cell5
      have f3 := (rB.below acc zB).free 3
      have f4 := (rB.below acc zB).free 4
      have f5 := (rB.below acc zB).free 5
      go_region_held3 (fun w' => w'.cell? ⟨q,0,none⟩ = some (.bool s0) ∧ w'.cell? ⟨q,1,none⟩ = some (.int .u64 x0) ∧ w'.cell? ⟨q,2,none⟩ = some (.slice p0 l0 c0) ∧ w'.cell? ⟨q,3,none⟩ = some (.bool s1) ∧ w'.cell? ⟨q,4,none⟩ = some (.int .u64 x1) ∧ w'.cell? ⟨q,5,none⟩ = some (.slice p1 l1 c1) ∧ w'.cell? ⟨lb,0,none⟩ = some (.bool u0) ∧ w'.cell? ⟨lb,1,none⟩ = some (.int .u64 z0) ∧ w'.cell? ⟨lb,2,none⟩ = some (.slice r0 n0 e0) ∧ w'.cell? ⟨lb,3,none⟩ = some (.bool u1) ∧ w'.cell? ⟨lb,4,none⟩ = some (.int .u64 z1) ∧ w'.cell? ⟨lb,5,none⟩ = some (.slice r1 n1 e1))
        (first | with_reducible exact ⟨(rP.below acc zP).cell0,(rP.below acc zP).cell1,(rP.below acc zP).cell2,(rP.below acc zP).cell3,(rP.below acc zP).cell4,(rP.below acc zP).cell5,(rL.below acc zL).cell0,(rL.below acc zL).cell1,(rL.below acc zL).cell2,(rL.below acc zL).cell3,(rL.below acc zL).cell4,(rL.below acc zL).cell5⟩ | with_reducible exact ⟨(rP.below acc zP).drew.cell0,(rP.below acc zP).drew.cell1,(rP.below acc zP).drew.cell2,(rP.below acc zP).drew.cell3,(rP.below acc zP).drew.cell4,(rP.below acc zP).drew.cell5,(rL.below acc zL).drew.cell0,(rL.below acc zL).drew.cell1,(rL.below acc zL).drew.cell2,(rL.below acc zL).drew.cell3,(rL.below acc zL).drew.cell4,(rL.below acc zL).drew.cell5⟩ | with_reducible exact ⟨((((rP.below acc zP).other (a := ⟨q + 1 + 1 + 1,3,none⟩) dP _).other (a := ⟨q + 1 + 1 + 1,4,none⟩) dP _).other (a := ⟨q + 1 + 1 + 1,5,none⟩) dP _).cell0,((((rP.below acc zP).other (a := ⟨q + 1 + 1 + 1,3,none⟩) dP _).other (a := ⟨q + 1 + 1 + 1,4,none⟩) dP _).other (a := ⟨q + 1 + 1 + 1,5,none⟩) dP _).cell1,((((rP.below acc zP).other (a := ⟨q + 1 + 1 + 1,3,none⟩) dP _).other (a := ⟨q + 1 + 1 + 1,4,none⟩) dP _).other (a := ⟨q + 1 + 1 + 1,5,none⟩) dP _).cell2,((((rP.below acc zP).other (a := ⟨q + 1 + 1 + 1,3,none⟩) dP _).other (a := ⟨q + 1 + 1 + 1,4,none⟩) dP _).other (a := ⟨q + 1 + 1 + 1,5,none⟩) dP _).cell3,((((rP.below acc zP).other (a := ⟨q + 1 + 1 + 1,3,none⟩) dP _).other (a := ⟨q + 1 + 1 + 1,4,none⟩) dP _).other (a := ⟨q + 1 + 1 + 1,5,none⟩) dP _).cell4,((((rP.below acc zP).other (a := ⟨q + 1 + 1 + 1,3,none⟩) dP _).other (a := ⟨q + 1 + 1 + 1,4,none⟩) dP _).other (a := ⟨q + 1 + 1 + 1,5,none⟩) dP _).cell5,((((rL.below acc zL).other (a := ⟨q + 1 + 1 + 1,3,none⟩) dL _).other (a := ⟨q + 1 + 1 + 1,4,none⟩) dL _).other (a := ⟨q + 1 + 1 + 1,5,none⟩) dL _).cell0,((((rL.below acc zL).other (a := ⟨q + 1 + 1 + 1,3,none⟩) dL _).other (a := ⟨q + 1 + 1 + 1,4,none⟩) dL _).other (a := ⟨q + 1 + 1 + 1,5,none⟩) dL _).cell1,((((rL.below acc zL).other (a := ⟨q + 1 + 1 + 1,3,none⟩) dL _).other (a := ⟨q + 1 + 1 + 1,4,none⟩) dL _).other (a := ⟨q + 1 + 1 + 1,5,none⟩) dL _).cell2,((((rL.below acc zL).other (a := ⟨q + 1 + 1 + 1,3,none⟩) dL _).other (a := ⟨q + 1 + 1 + 1,4,none⟩) dL _).other (a := ⟨q + 1 + 1 + 1,5,none⟩) dL _).cell3,((((rL.below acc zL).other (a := ⟨q + 1 + 1 + 1,3,none⟩) dL _).other (a := ⟨q + 1 + 1 + 1,4,none⟩) dL _).other (a := ⟨q + 1 + 1 + 1,5,none⟩) dL _).cell4,((((rL.below acc zL).other (a := ⟨q + 1 + 1 + 1,3,none⟩) dL _).other (a := ⟨q + 1 + 1 + 1,4,none⟩) dL _).other (a := ⟨q + 1 + 1 + 1,5,none⟩) dL _).cell5⟩)
        (first
          | (go_at_call 19; (first | (have q1 := mulA _ acc; (with_reducible refine q1.mono ?_); clear q1) | (have q1 := mulA _ acc.drew; (with_reducible refine q1.mono ?_); clear q1)); rintro e wa ⟨v1,rfl,h1,hb⟩; (first | replace h2 := h2.below hb | replace h2 := h2.drew.below hb | skip); (first | replace acc := below_acc acc acc.size hb | replace acc := below_accD acc acc.size hb); have a0 := (rP.below acc zP).cell0; have a1 := (rP.below acc zP).cell1; have a2 := (rP.below acc zP).cell2; have a3 := (rP.below acc zP).cell3; have a4 := (rP.below acc zP).cell4; have a5 := (rP.below acc zP).cell5; have b0 := (rL.below acc zL).cell0; have b1 := (rL.below acc zL).cell1; have b2 := (rL.below acc zL).cell2; have b3 := (rL.below acc zL).cell3; have b4 := (rL.below acc zL).cell4; have b5 := (rL.below acc zL).cell5; have g3 := (rB.below acc zB).cell3; have g4 := (rB.below acc zB).cell4; have g5 := (rB.below acc zB).cell5; have f3 := (rB.below acc zB).free 3; have f4 := (rB.below acc zB).free 4; have f5 := (rB.below acc zB).free 5; clear hb)
          | (go_at_call 19; (first | (have q1 := mulB _ acc; (with_reducible refine q1.mono ?_); clear q1) | (have q1 := mulB _ acc.drew; (with_reducible refine q1.mono ?_); clear q1)); rintro e wb ⟨v2,rfl,h2,hb⟩; (first | replace h1 := h1.below hb | replace h1 := h1.drew.below hb | skip); (first | replace acc := below_acc acc acc.size hb | replace acc := below_accD acc acc.size hb); have a0 := (rP.below acc zP).cell0; have a1 := (rP.below acc zP).cell1; have a2 := (rP.below acc zP).cell2; have a3 := (rP.below acc zP).cell3; have a4 := (rP.below acc zP).cell4; have a5 := (rP.below acc zP).cell5; have b0 := (rL.below acc zL).cell0; have b1 := (rL.below acc zL).cell1; have b2 := (rL.below acc zL).cell2; have b3 := (rL.below acc zL).cell3; have b4 := (rL.below acc zL).cell4; have b5 := (rL.below acc zL).cell5; have g3 := (rB.below acc zB).cell3; have g4 := (rB.below acc zB).cell4; have g5 := (rB.below acc zB).cell5; have f3 := (rB.below acc zB).free 3; have f4 := (rB.below acc zB).free 4; have f5 := (rB.below acc zB).free 5; clear hb)
          | (go_at_call 20; (first | (have q1 := addC _ _ _ h1 h2; (with_reducible refine q1.mono ?_); clear q1) | (have q1 := addC _ _ _ h1.drew h2.drew; (with_reducible refine q1.mono ?_); clear q1)); rintro e wc ⟨v3,rfl,⟨x3,p3,l3,c3,rfl,hn3⟩,hb,hnw⟩; replace hnw := hnw.mono (C := w.heap.size) (Nat.le_trans hB5.size acc.size); (first | replace acc := below_acc acc acc.size hb | replace acc := below_accD acc acc.size hb); have a0 := (rP.below acc zP).cell0; have a1 := (rP.below acc zP).cell1; have a2 := (rP.below acc zP).cell2; have a3 := (rP.below acc zP).cell3; have a4 := (rP.below acc zP).cell4; have a5 := (rP.below acc zP).cell5; have b0 := (rL.below acc zL).cell0; have b1 := (rL.below acc zL).cell1; have b2 := (rL.below acc zL).cell2; have b3 := (rL.below acc zL).cell3; have b4 := (rL.below acc zL).cell4; have b5 := (rL.below acc zL).cell5; have g3 := (rB.below acc zB).cell3; have g4 := (rB.below acc zB).cell4; have g5 := (rB.below acc zB).cell5; have f3 := (rB.below acc zB).free 3; have f4 := (rB.below acc zB).free 4; have f5 := (rB.below acc zB).free 5; clear hb))
      all_goals
        have gB := (rB.below acc zB).set3 (.bool (decide (R < 0))) (.int .u64 x3) (.slice p3 l3 c3)
        have gP := ((((rP.below acc zP).other (a := ⟨q + 1 + 1 + 1,3,none⟩) dP (.bool (decide (R < 0)))).other (a := ⟨q + 1 + 1 + 1,4,none⟩) dP (.int .u64 x3)).other (a := ⟨q + 1 + 1 + 1,5,none⟩) dP (.slice p3 l3 c3))
        have gR := ((((rR.below acc zR).other (a := ⟨q + 1 + 1 + 1,3,none⟩) dR (.bool (decide (R < 0)))).other (a := ⟨q + 1 + 1 + 1,4,none⟩) dR (.int .u64 x3)).other (a := ⟨q + 1 + 1 + 1,5,none⟩) dR (.slice p3 l3 c3))
        have gn := hn3.sets (rB.below acc zB).cell2 3 4 5 (.bool (decide (R < 0))) (.int .u64 x3) (.slice p3 l3 c3)
        have go := (hn5.below acc).sets (rB.below acc zB).cell2 3 4 5 (.bool (decide (R < 0))) (.int .u64 x3) (.slice p3 l3 c3)
        have gW := (((hB5.trans (acc.mono hB5.size)).setCell (p := ⟨q + 1 + 1 + 1,3,none⟩) hqw (.bool (decide (R < 0)))).setCell (p := ⟨q + 1 + 1 + 1,4,none⟩) hqw (.int .u64 x3)).setCell (p := ⟨q + 1 + 1 + 1,5,none⟩) hqw (.slice p3 l3 c3)
        go_wp2_with fail
        go_roundg 0
        case measure => omega
        case rel => exact ⟨gW,gP,gR,.inr (.inr ⟨u,p,l,c,x3,p3,l3,c3,rfl,rfl,by rw [HR.out]; exact gB,go,by rw [HR.out]; exact gn,hw1,by rw [HR.out]; exact hnw⟩)⟩
    · obtain ⟨R0,hR0⟩ : ∃ R0,P0 * A0 + P1 * A1 = R0 := ⟨_,rfl⟩
      obtain ⟨R1,hR1⟩ : ∃ R1,P0 * B0 + P1 * B1 = R1 := ⟨_,rfl⟩
      rw [hR0] at hn hr hw1
      rw [hR1] at hn2 hr hw2
      have HR0 := Lib.hid hR0
      have HR1 := Lib.hid hR1
      clear hR0 hR1
      have hqw : w.heap.size ≤ q + 1 + 1 := by omega
      have gR := (hR.set0 (.bool (decide (R0 < 0))) (.int .u64 u) (.slice p l c)).set3 (.bool (decide (R1 < 0))) (.int .u64 x) (.slice r m d)
      have e2 := (hR.set0 (.bool (decide (R0 < 0))) (.int .u64 u) (.slice p l c)).cell2
      have gn := (hn.sets hR.cell2 0 1 2 (.bool (decide (R0 < 0))) (.int .u64 u) (.slice p l c)).sets e2 3 4 5 (.bool (decide (R1 < 0))) (.int .u64 x) (.slice r m d)
      have gn2 := (hn2.sets hR.cell2 0 1 2 (.bool (decide (R0 < 0))) (.int .u64 u) (.slice p l c)).sets e2 3 4 5 (.bool (decide (R1 < 0))) (.int .u64 x) (.slice r m d)
      have gW := (((((hB.setCell (p := ⟨q + 1 + 1,0,none⟩) hqw (.bool (decide (R0 < 0)))).setCell (p := ⟨q + 1 + 1,1,none⟩) hqw (.int .u64 u)).setCell (p := ⟨q + 1 + 1,2,none⟩) hqw (.slice p l c)).setCell (p := ⟨q + 1 + 1,3,none⟩) hqw (.bool (decide (R1 < 0)))).setCell (p := ⟨q + 1 + 1,4,none⟩) hqw (.int .u64 x)).setCell (p := ⟨q + 1 + 1,5,none⟩) hqw (.slice r m d)
      clear e2
      have c0 := hr.cell0
      have c1 := hr.cell1
      have c2 := hr.cell2
      have c3 := hr.cell3
      have c4 := hr.cell4
      have c5 := hr.cell5
      have g0 := hR.cell0
      have g1 := hR.cell1
      have g2 := hR.cell2
      have g3 := hR.cell3
      have g4 := hR.cell4
      have g5 := hR.cell5
      have f0 := hR.free 0
      have f1 := hR.free 1
      have f2 := hR.free 2
      have f3 := hR.free 3
      have f4 := hR.free 4
      have f5 := hR.free 5
      go_wp2_with fail
      exact bodyPost_ret (v := .agg #[.bool (decide (R0 < 0)),.int .u64 u,.slice p l c,.bool (decide (R1 < 0)),.int .u64 x,.slice r m d]) (results_cell_row Tryz.results33 _ _ (q + 1 + 1) _ _ (0,0) _ rfl gR Tryz.underlying70 rfl (by kernel_rfl)) rfl ⟨_,rfl,⟨u,p,l,c,x,r,m,d,by rw [HR0.out,HR1.out],by rw [HR0.out]; exact gn,by rw [HR1.out]; exact gn2,by rw [HR0.out]; exact hw1,by rw [HR1.out]; exact hw2⟩,gW⟩
theorem by_intF (K : Nat) (hK : 1 ≤ K) (hK2 : K < 40) (P0 P1 A0 A1 B0 B1 : Int) (b0 b1 : Bool) (x0 x1 : Int) (p0 p1 : Option Addr) (l0 l1 c0 c1 : Nat) (u : Value) (w : World) (h0 : IsInt w (.agg #[.bool b0,.int .u64 x0,.slice p0 l0 c0]) P0) (h1 : IsInt w (.agg #[.bool b1,.int .u64 x1,.slice p1 l1 c1]) P1) (hu : IsTurn w u A0 A1 B0 B1)
    (kp0 : absI P0 < pw K) (kp1 : absI P1 < pw K) (ka0 : absI A0 < pw K) (ka1 : absI A1 < pw K) (kb0 : absI B0 < pw K) (kb1 : absI B1 < pw K) :
    Calls Tryz.prog 33 #[.agg #[.bool b0,.int .u64 x0,.slice p0 l0 c0,.bool b1,.int .u64 x1,.slice p1 l1 c1],u] w fun e w' => ∃ s0 y0 q0 m0 d0 s1 y1 q1 m1 d1,e = .returned (.agg #[.bool s0,.int .u64 y0,.slice q0 m0 d0,.bool s1,.int .u64 y1,.slice q1 m1 d1]) ∧
      IsInt w' (.agg #[.bool s0,.int .u64 y0,.slice q0 m0 d0]) (P0 * A0 + P1 * A1) ∧ IsInt w' (.agg #[.bool s1,.int .u64 y1,.slice q1 m1 d1]) (P0 * B0 + P1 * B1) ∧ (∀ a,q0 = some a → w.heap.size ≤ a.block) ∧ (∀ a,q1 = some a → w.heap.size ≤ a.block) ∧ Below w.heap.size w w' := by
  obtain ⟨t0,t1,u0,u1,y0,y1,z0,z1,q0,q1,r0,r1,m0,m1,n0,n1,d0,d1,e0,e1,rfl,a0,a1,b0',b1'⟩ := hu
  obtain rfl := a0.flag
  obtain rfl := a1.flag
  obtain rfl := b0'.flag
  obtain rfl := b1'.flag
  obtain rfl := h0.flag
  obtain rfl := h1.flag
  refine (by_pairF K hK hK2 P0 P1 A0 A1 B0 B1 x0 x1 y0 y1 z0 z1 p0 p1 q0 q1 r0 r1 l0 l1 m0 m1 n0 n1 c0 c1 d0 d1 e0 e1 w h0 h1 a0 a1 b0' b1' kp0 kp1 ka0 ka1 kb0 kb1).mono ?_
  rintro e w' ⟨v,rfl,⟨u,p,l,c,x,r,m,d,rfl,hn,hn2,hw1,hw2⟩,hb⟩
  exact ⟨_,u,p,l,c,_,x,r,m,d,rfl,⟨_,_,_,_,rfl,hn⟩,⟨_,_,_,_,rfl,hn2⟩,fun a e => by obtain ⟨q,o,f⟩ := a; subst e; exact hw1 _ _ _ _ _ _ _ rfl,fun a e => by obtain ⟨q,o,f⟩ := a; subst e; exact hw2 _ _ _ _ _ _ _ rfl,hb⟩
theorem IsNat.only {w w' : World} {x n : Int} {p : Option Addr} {l c : Nat} {P : Nat → Prop} (h : IsNat w (.agg #[.int .u64 x,.slice p l c]) n) (o : Only w w' P) (hp : ∀ a,p = some a → ¬ P a.block) : IsNat w' (.agg #[.int .u64 x,.slice p l c]) n := by
  rcases h with h | ⟨b,t,len,cap,l',hv,ha,r⟩
  · exact .inl h
  · refine .inr ⟨b,t,len,cap,l',hv,(o.2.2.2.2 b ha.lt ?_).trans ha,r⟩
    simp only [Value.agg.injEq,Array.mk.injEq,List.cons.injEq,Value.slice.injEq] at hv
    exact hp ⟨b,0,none⟩ hv.2.1.1
theorem IsInt.only {w w' : World} {b : Bool} {x z : Int} {p : Option Addr} {l c : Nat} {P : Nat → Prop} (h : IsInt w (.agg #[.bool b,.int .u64 x,.slice p l c]) z) (o : Only w w' P) (hp : ∀ a,p = some a → ¬ P a.block) : IsInt w' (.agg #[.bool b,.int .u64 x,.slice p l c]) z := by
  obtain ⟨x',p',l',c',hv,hn⟩ := h
  have hv0 := hv
  simp only [Value.agg.injEq,Array.mk.injEq,List.cons.injEq,Value.slice.injEq,Value.int.injEq,true_and,and_true] at hv
  obtain ⟨_,rfl,rfl,rfl,rfl⟩ := hv
  exact ⟨_,_,_,_,hv0,hn.only o hp⟩
theorem of_word (n : Int) (hn : 0 ≤ n ∧ n ≤ 9223372036854775807) (w : World) : Calls Tryz.prog 31 #[.int .i64 n] w fun e w' => e = .returned (.agg #[.bool false,.int .u64 n,.slice none 0 0]) ∧ Below w.heap.size w w' := by
  refine (of_int n (by omega) w).mono ?_
  rintro e w' ⟨v,rfl,⟨x,p,l,c,rfl,hn'⟩,hb⟩
  have ea : absI n = n := by unfold absI; rw [if_neg (by omega)]
  rw [ea] at hn'
  have h1 := hn'.one (by omega)
  simp only [Value.agg.injEq,Array.mk.injEq,List.cons.injEq,Value.slice.injEq,Value.int.injEq,true_and,and_true] at h1
  obtain ⟨rfl,rfl,rfl,rfl⟩ := h1
  exact ⟨by rw [show decide (x < 0) = false by simp; omega],hb⟩
end Go.Proofs.YtgccgacpifebbaaGreatDoor
