/- WhoA -/
import Derived.Test.YtgccgacpifebbaaGreatDoorZb22
import Derived.Test.YtgccgacpifebbaaGreatDoorZb23
import Derived.Test.YtgccgacpifebbaaGreatDoorZb18
import Derived.Deep.RegionHeld3
namespace Go.Proofs.YtgccgacpifebbaaGreatDoor
open Go.RowKit
set_option linter.unusedVariables false
def absI (z : Int) : Int := if z < 0 then -z else z
theorem absI_nonneg (z : Int) : 0 ≤ absI z := by unfold absI; split <;> omega
/-- The value v is the whole number z. -/
def IsInt (w : World) (v : Value) (z : Int) : Prop := ∃ x p l c,v = .agg #[.bool (decide (z < 0)),.int .u64 x,.slice p l c] ∧ IsNat w (.agg #[.int .u64 x,.slice p l c]) (absI z)
theorem IsInt.below {w w' : World} {v : Value} {z : Int} (h : IsInt w v z) (hb : Below w.heap.size w w') : IsInt w' v z := by
  obtain ⟨x,p,l,c,hv,hn⟩ := h
  exact ⟨x,p,l,c,hv,hn.below hb⟩
def RetInt (z : Int) (w : World) (e : Ending) (w' : World) : Prop := ∃ v,e = .returned v ∧ IsInt w' v z ∧ Below w.heap.size w w'
/-- A variable of three cells. -/
def Row3 (w : World) (c : Nat) (x y z : Value) : Prop := w.heap[c]? = some (.cells #[x,y,z] 28 (0,0))
section
variable {w w' : World} {c : Nat} {x y z : Value}
theorem Row3.lt (h : Row3 w c x y z) : c < w.heap.size := (Array.getElem?_eq_some_iff.1 h).1
theorem Row3.cell0 (h : Row3 w c x y z) : w.cell? ⟨c,0,none⟩ = some x := by rw [cell_of_row w c 0 _ _ (0,0) h]; rfl
theorem Row3.cell1 (h : Row3 w c x y z) : w.cell? ⟨c,1,none⟩ = some y := by rw [cell_of_row w c 1 _ _ (0,0) h]; rfl
theorem Row3.cell2 (h : Row3 w c x y z) : w.cell? ⟨c,2,none⟩ = some z := by rw [cell_of_row w c 2 _ _ (0,0) h]; rfl
theorem Row3.free (h : Row3 w c x y z) (i : Nat) : w.frozen? ⟨c,i,none⟩ = false := frozen_of_row w c i _ _ h
theorem Row3.below {B : Nat} (h : Row3 w c x y z) (hb : Below B w w') (hc : c < B) : Row3 w' c x y z := (hb.block c hc).trans h
theorem Row3.grown {row : Option Nat} (h : Row3 w c x y z) (hg : w.grownBy w' row) (hne : some c ≠ row) : Row3 w' c x y z := (hg.block c h.lt hne).trans h
theorem Row3.new (w : World) (x y z : Value) (c : Nat) (hc : c = w.heap.size) : Row3 (w.alloc (.cells #[x,y,z] 28)) c x y z := heap_new w _ c hc
theorem Row3.alloc (h : Row3 w c x y z) (o : Obj) : Row3 (w.alloc o) c x y z := (heap_alloc_old w o h.lt).trans h
theorem Row3.set3 (h : Row3 w c x y z) (x' y' z' : Value) : Row3 (((w.setCell ⟨c,0,none⟩ x').setCell ⟨c,1,none⟩ y').setCell ⟨c,2,none⟩ z') c x' y' z' := by
  have g1 := heap_setCell_same w c 0 _ _ x' h
  have g2 := heap_setCell_same _ c 1 _ _ y' g1
  have g3 := heap_setCell_same _ c 2 _ _ z' g2
  exact g3
theorem Row3.other (h : Row3 w c x y z) {a : Addr} (ha : c ≠ a.block) (v : Value) : Row3 (w.setCell a v) c x y z := (heap_setCell_other w a c v ha).trans h
end
theorem bodyPost_int {fn : Func} {p : Tmp} (h : fn.results = #[.cell p 28]) {w w' : World} {a : Act} {x : Int} {pp : Option Addr} {l k : Nat} {b : Bool} {z : Int} {c : Nat} (hd : a.defers = [])
    (hp : a.tmps.getD p undef = .pointer (some ⟨c,0,none⟩)) (hr : Row3 w' c (.bool b) (.int .u64 x) (.slice pp l k)) (hb : b = decide (z < 0)) (hn : IsNat w' (.agg #[.int .u64 x,.slice pp l k]) (absI z)) (hB : Below w.heap.size w w') :
    bodyPost Tryz.prog fn (RetInt z w) Exit.ret a w' := by
  refine bodyPost_ret (v := .agg #[.bool b,.int .u64 x,.slice pp l k]) (results_cell_row h _ _ c _ _ (0,0) _ hp hr Tryz.underlying28 rfl (by kernel_rfl)) hd ⟨_,rfl,⟨x,pp,l,k,by rw [hb],hn⟩,hB⟩
set_option maxRecDepth 100000 in
set_option maxHeartbeats 1000000 in
theorem of_int (n : Int) (hn : -9223372036854775808 ≤ n ∧ n ≤ 9223372036854775807) (w : World) : Calls Tryz.prog 31 #[.int .i64 n] w (RetInt n w) := by
  have hW : Below w.heap.size w (w.alloc (.cells #[.bool false,.int .u64 0,.slice none 0 0] 28)) := by go_grown
  have hR := Row3.new w (.bool false) (.int .u64 0) (.slice none 0 0) _ rfl
  obtain ⟨c,hc⟩ : ∃ c,w.heap.size = c := ⟨_,rfl⟩
  rw [hc] at hR
  by_cases h0 : n < 0
  · have e1 : IntKind.u64.wrap (-IntKind.u64.wrap n) = -n := by rw [IntKind.wrap_u64,IntKind.wrap_u64]; omega
    have ea : absI n = -n := by unfold absI; rw [if_pos h0]
    go_enter Tryz.func31,Tryz.ntmps31
    go_wp2_with fail
    generalize (w.alloc (.cells #[.bool false,.int .u64 0,.slice none 0 0] 28)) = W at hW hR ⊢
    refine (of_any (-n) W).mono ?_
    rintro e w1 ⟨rfl,hb⟩
    have h1 := hR.below hb hR.lt
    have c0 := h1.cell0
    have c1 := h1.cell1
    have c2 := h1.cell2
    have f0 := h1.free 0
    have f1 := h1.free 1
    have f2 := h1.free 2
    have g3 := h1.set3 (.bool true) (.int .u64 (-n)) (.slice none 0 0)
    have hBw := (((hW.trans (hb.mono hW.size)).setCell (p := ⟨c,0,none⟩) (by show w.heap.size ≤ c; omega) (.bool true)).setCell (p := ⟨c,1,none⟩) (by show w.heap.size ≤ c; omega) (.int .u64 (-n))).setCell (p := ⟨c,2,none⟩) (by show w.heap.size ≤ c; omega) (.slice none 0 0)
    go_wp2_with fail
    exact bodyPost_int Tryz.results31 rfl rfl g3 (decide_eq_true h0).symm (by rw [ea]; exact IsNat.word ⟨by omega,by omega⟩) hBw
  · have e1 : IntKind.u64.wrap n = n := by rw [IntKind.wrap_u64]; omega
    have ea : absI n = n := by unfold absI; rw [if_neg h0]
    go_enter Tryz.func31,Tryz.ntmps31
    go_wp2_with fail
    generalize (w.alloc (.cells #[.bool false,.int .u64 0,.slice none 0 0] 28)) = W at hW hR ⊢
    refine (of_any n W).mono ?_
    rintro e w1 ⟨rfl,hb⟩
    have h1 := hR.below hb hR.lt
    have c0 := h1.cell0
    have c1 := h1.cell1
    have c2 := h1.cell2
    have f0 := h1.free 0
    have f1 := h1.free 1
    have f2 := h1.free 2
    have g3 := h1.set3 (.bool false) (.int .u64 n) (.slice none 0 0)
    have hBw := (((hW.trans (hb.mono hW.size)).setCell (p := ⟨c,0,none⟩) (by show w.heap.size ≤ c; omega) (.bool false)).setCell (p := ⟨c,1,none⟩) (by show w.heap.size ≤ c; omega) (.int .u64 n)).setCell (p := ⟨c,2,none⟩) (by show w.heap.size ≤ c; omega) (.slice none 0 0)
    go_wp2_with fail
    exact bodyPost_int Tryz.results31 rfl rfl g3 (decide_eq_false (Int.not_lt.2 h0)).symm (by rw [ea]; exact IsNat.word ⟨by omega,by omega⟩) hBw
set_option maxRecDepth 100000 in
set_option maxHeartbeats 1000000 in
theorem abs_int (v : Value) (z : Int) (w : World) (h : IsInt w v z) : Calls Tryz.prog 25 #[v] w (RetNat (absI z) w) := by
  obtain ⟨x,p,l,c,rfl,hn⟩ := h
  have g1 := heap_new (w.alloc (.cells #[.bool (decide (z < 0)),.int .u64 x,.slice p l c] 28)) (.cells #[.int .u64 x,.slice p l c] 26) (w.heap.size + 1) (by rw [World.size_alloc])
  have hW : Below w.heap.size w ((w.alloc (.cells #[.bool (decide (z < 0)),.int .u64 x,.slice p l c] 28)).alloc (.cells #[.int .u64 x,.slice p l c] 26)) := by go_grown
  generalize decide (z < 0) = b at g1 hW ⊢
  go_enter Tryz.func25,Tryz.ntmps25
  go_wp2_with fail
  exact bodyPost_ret (v := .agg #[.int .u64 x,.slice p l c]) (results_cell_row Tryz.results25 _ _ (w.heap.size + 1) _ _ (0,0) _ rfl g1 Tryz.underlying26 rfl (by kernel_rfl)) rfl ⟨_,rfl,hn.below hW,hW⟩
theorem bits_zero' {k : Nat} (h : IsBits 0 k) : k = 0 := by
  rcases Nat.eq_zero_or_pos k with h0 | h0
  · exact h0
  · have h1 := h.2 (by omega)
    have h2 : (0 : Int) < 2 ^ (k - 1) := Int.pow_pos (by decide)
    omega
theorem bits_pos' {n : Int} {k : Nat} (h : IsBits n k) (hn : 0 < n) : 0 < k := by
  rcases Nat.eq_zero_or_pos k with rfl | h0
  · have h1 := h.1
    simp at h1
    omega
  · exact h0
def sgnI (z : Int) : Int := if z < 0 then -1 else if z = 0 then 0 else 1
set_option maxRecDepth 100000 in
set_option maxHeartbeats 1000000 in
theorem sign_int (v : Value) (z : Int) (w : World) (h : IsInt w v z) : Calls Tryz.prog 22 #[v] w fun e w' => e = .returned (.int .i64 (sgnI z)) ∧ Below w.heap.size w w' := by
  obtain ⟨x,p,l,c,rfl,hn⟩ := h
  have hW : ∀ b : Bool,Below w.heap.size w (w.alloc (.cells #[.bool b,.int .u64 x,.slice p l c] 28)) := fun b => by go_grown
  by_cases h0 : z < 0
  · rw [decide_eq_true h0,show sgnI z = -1 by unfold sgnI; rw [if_pos h0]]
    have hb := hW true
    clear hn hW h0
    go_enter Tryz.func22,Tryz.ntmps22
    go_wp2_with fail
    go_ret
    exact ⟨rfl,hb⟩
  · have hb := hW false
    have hn' := hn.below hb
    rw [show absI z = z by unfold absI; rw [if_neg h0]] at hn'
    have z0 : 0 ≤ z := by omega
    by_cases hz : z = 0
    · subst hz
      clear hn hW h0
      go_enter Tryz.func22,Tryz.ntmps22
      go_wp2_with fail
      refine (bits_nat _ 0 _ hn').mono ?_
      rintro e w1 ⟨⟨k,rfl,hk⟩,b1⟩
      obtain rfl := bits_zero' hk
      have hBw := hb.trans (b1.mono hb.size)
      clear hn' hk
      go_wp2_with fail
      go_ret
      exact ⟨rfl,hBw⟩
    · have hs : sgnI z = 1 := by unfold sgnI; rw [if_neg h0,if_neg hz]
      rw [hs,decide_eq_false h0]
      have zp : 0 < z := by omega
      have Zp := Lib.hid zp
      clear hn hW h0 hs z0 hz zp
      go_enter Tryz.func22,Tryz.ntmps22
      go_wp2_with fail
      refine (bits_nat _ z _ hn').mono ?_
      rintro e w1 ⟨⟨k,rfl,hk⟩,b1⟩
      have k0 : ((k : Int) == 0) = false := by
        have := bits_pos' hk Zp.out
        simp
        omega
      have hBw := hb.trans (b1.mono hb.size)
      clear hn' hk
      go_wp2_with fail
      go_ret
      exact ⟨rfl,hBw⟩
end Go.Proofs.YtgccgacpifebbaaGreatDoor
namespace Go.Proofs.YtgccgacpifebbaaGreatDoor
open Go.RowKit
set_option linter.unusedVariables false
set_option maxRecDepth 100000 in
set_option maxHeartbeats 1000000 in
theorem from_pos_int (x : Int) (p : Option Addr) (l c : Nat) (n : Int) (w : World) (h : IsNat w (.agg #[.int .u64 x,.slice p l c]) n) : Calls Tryz.prog 23 #[.bool false,.agg #[.int .u64 x,.slice p l c]] w (RetInt n w) := by
  have n0 := h.nonneg
  have ea : absI n = n := by unfold absI; rw [if_neg (by omega)]
  have hv := Var.new w w.heap.size (.int .u64 x) p l c rfl
  have hW : Below w.heap.size w ((w.alloc (.cells #[.int .u64 x,.slice p l c] 26)).alloc (.cells #[.bool false,.int .u64 0,.slice none 0 0] 28)) := by go_grown
  have hr := Row3.new (w.alloc (.cells #[.int .u64 x,.slice p l c] 26)) (.bool false) (.int .u64 0) (.slice none 0 0) (w.heap.size + 1) (by simp)
  have hv2 := hv.alloc (.cells #[.bool false,.int .u64 0,.slice none 0 0] 28)
  go_enter Tryz.func23,Tryz.ntmps23
  go_wp2_with fail
  generalize ((w.alloc (.cells #[.int .u64 x,.slice p l c] 26)).alloc (.cells #[.bool false,.int .u64 0,.slice none 0 0] 28)) = W at hv2 hW hr ⊢
  obtain ⟨q,hq⟩ : ∃ q,w.heap.size = q := ⟨_,rfl⟩
  rw [hq] at hv2 hr ⊢
  have a0 := hv2.c0
  have a1 := hv2.c1
  have c0 := hr.cell0
  have c1 := hr.cell1
  have c2 := hr.cell2
  have f0 := hr.free 0
  have f1 := hr.free 1
  have f2 := hr.free 2
  have g3 := (hr.set3 (.bool false) (.int .u64 x) (.slice p l c))
  have hB3 := ((hW.setCell (p := ⟨q + 1,0,none⟩) (by show w.heap.size ≤ q + 1; omega) (.bool false)).setCell (p := ⟨q + 1,1,none⟩) (by show w.heap.size ≤ q + 1; omega) (.int .u64 x)).setCell (p := ⟨q + 1,2,none⟩) (by show w.heap.size ≤ q + 1; omega) (.slice p l c)
  go_region
  all_goals
    go_wp2_with fail
    exact bodyPost_int Tryz.results23 rfl rfl g3 (decide_eq_false (by omega)).symm (by rw [ea]; exact h.below hB3.drew) hB3.drew
set_option maxRecDepth 100000 in
set_option maxHeartbeats 1000000 in
theorem from_neg_int (x : Int) (p : Option Addr) (l c : Nat) (n : Int) (w : World) (h : IsNat w (.agg #[.int .u64 x,.slice p l c]) n) : Calls Tryz.prog 23 #[.bool true,.agg #[.int .u64 x,.slice p l c]] w (RetInt (-n) w) := by
  have n0 := h.nonneg
  have ea : absI (-n) = n := by unfold absI; split <;> omega
  have hv := Var.new w w.heap.size (.int .u64 x) p l c rfl
  have hW : Below w.heap.size w ((w.alloc (.cells #[.int .u64 x,.slice p l c] 26)).alloc (.cells #[.bool false,.int .u64 0,.slice none 0 0] 28)) := by go_grown
  have hr := Row3.new (w.alloc (.cells #[.int .u64 x,.slice p l c] 26)) (.bool false) (.int .u64 0) (.slice none 0 0) (w.heap.size + 1) (by simp)
  have hv2 := hv.alloc (.cells #[.bool false,.int .u64 0,.slice none 0 0] 28)
  go_enter Tryz.func23,Tryz.ntmps23
  go_wp2_with fail
  generalize ((w.alloc (.cells #[.int .u64 x,.slice p l c] 26)).alloc (.cells #[.bool false,.int .u64 0,.slice none 0 0] 28)) = W at hv2 hW hr ⊢
  obtain ⟨q,hq⟩ : ∃ q,w.heap.size = q := ⟨_,rfl⟩
  rw [hq] at hv2 hr ⊢
  have a0 := hv2.c0
  have a1 := hv2.c1
  have c0 := hr.cell0
  have c1 := hr.cell1
  have c2 := hr.cell2
  have f0 := hr.free 0
  have f1 := hr.free 1
  have f2 := hr.free 2
  have bt := fun W (g : IsNat W (.agg #[.int .u64 x,.slice p l c]) n) => bits_nat _ n W g
  have hnW := h.below hW
  have hnWd : IsNat W.drew (.agg #[.int .u64 x,.slice p l c]) n := hnW
  have acc := Below.refl (q + 2) W
  have z0 : q < q + 2 := by omega
  have z1 : q + 1 < q + 2 := by omega
  have d01 : q ≠ q + 1 := by omega
  have hsz : q + 2 ≤ W.heap.size := by have := hr.lt; omega
  clear c0 c1 c2 f0 f1 f2
  go_region_held3 (fun w' => w'.cell? ⟨q,0,none⟩ = some (.int .u64 x) ∧ w'.cell? ⟨q,1,none⟩ = some (.slice p l c))
    (first | with_reducible exact ⟨(hv2.below acc z0).c0,(hv2.below acc z0).c1⟩ | with_reducible exact ⟨(hv2.below acc z0).drew.c0,(hv2.below acc z0).drew.c1⟩ | with_reducible exact ⟨((((hv2.below acc z0).other d01 _).other d01 _).other d01 _).c0,((((hv2.below acc z0).other d01 _).other d01 _).other d01 _).c1⟩)
    (first
      | (go_at_call 55; (first | (have q := bt W hnW; (with_reducible refine q.mono ?_); clear q) | (have q := bt W.drew hnWd; (with_reducible refine q.mono ?_); clear q)); rintro e wa ⟨⟨k,rfl,hk⟩,hb⟩; (first | replace hb : Below W.heap.size W wa := hb | replace hb := below_undrew (w := W) hb); replace acc := acc.trans (hb.mono hsz); clear hb; have a0 := (hv2.below acc z0).c0; have a1 := (hv2.below acc z0).c1; have c0 := (hr.below acc z1).cell0; have c1 := (hr.below acc z1).cell1; have c2 := (hr.below acc z1).cell2; have f0 := (hr.below acc z1).free 0; have f1 := (hr.below acc z1).free 1; have f2 := (hr.below acc z1).free 2))
  all_goals
    have hbw := hW.trans (acc.mono (by have := hW.size; omega))
    have g3 := ((hr.below acc z1).set3 (.bool (decide (0 < k))) (.int .u64 x) (.slice p l c))
    have hB3 := ((hbw.setCell (p := ⟨q + 1,0,none⟩) (by show w.heap.size ≤ q + 1; omega) (.bool (decide (0 < k)))).setCell (p := ⟨q + 1,1,none⟩) (by show w.heap.size ≤ q + 1; omega) (.int .u64 x)).setCell (p := ⟨q + 1,2,none⟩) (by show w.heap.size ≤ q + 1; omega) (.slice p l c)
    have hkn : (0 < k) ↔ (-n < 0) := by
      constructor
      · intro hk0
        have h1 := hk.2 (by omega)
        have h2 : (0 : Int) < 2 ^ (k - 1) := Int.pow_pos (by decide)
        omega
      · intro hn0
        exact bits_pos' hk (by omega)
    go_wp2_with fail
    exact bodyPost_int Tryz.results23 rfl rfl g3 (decide_eq_decide.2 hkn) (by rw [ea]; exact h.below hB3) hB3
theorem from_int (neg : Bool) (v : Value) (n : Int) (w : World) (h : IsNat w v n) : Calls Tryz.prog 23 #[.bool neg,v] w (RetInt (if neg then -n else n) w) := by
  obtain ⟨x,p,l,c,rfl⟩ := h.shape
  cases neg
  · exact from_pos_int x p l c n w h
  · exact from_neg_int x p l c n w h
end Go.Proofs.YtgccgacpifebbaaGreatDoor
namespace Go.Proofs.YtgccgacpifebbaaGreatDoor
open Go.RowKit
set_option linter.unusedVariables false
theorem Arr.ne3 {w : World} {b c : Nat} {t : TypeId} {k : IntKind} {l : List Int} {x y : Value} {p : Option Addr} {m q : Nat} (ha : Arr w b t k l) (hr : Row3 w c x y (.slice p m q)) : b ≠ c := by
  rintro rfl
  have e := ha.symm.trans hr
  have e2 : ((l.map (Value.int k)).toArray : Array Value) = #[x,y,.slice p m q] := by
    have := Option.some.inj e
    injection this
  have e3 := congrArg Array.toList e2
  have e4 : l.map (Value.int k) = [x,y,.slice p m q] := by simpa using e3
  match l,e4 with
  | [],h => cases h
  | [_],h => cases h
  | [_,_],h => cases h
  | [_,_,_],h => simp at h
  | _ :: _ :: _ :: _ :: _,h => cases h
theorem IsNat.row3 {w : World} {v : Value} {n : Int} {c : Nat} {x y : Value} {p : Option Addr} {m q : Nat} (h : IsNat w v n) (hr : Row3 w c x y (.slice p m q)) (x' y' z' : Value) : IsNat (((w.setCell ⟨c,0,none⟩ x').setCell ⟨c,1,none⟩ y').setCell ⟨c,2,none⟩ z') v n := by
  rcases h with h | ⟨b,t,len,cap,l,hv,ha,r⟩
  · exact .inl h
  · have hne := ha.ne3 hr
    exact .inr ⟨b,t,len,cap,l,hv,((ha.other (a := ⟨c,0,none⟩) hne _).other (a := ⟨c,1,none⟩) hne _).other (a := ⟨c,2,none⟩) hne _,r⟩
theorem neg_form (z : Int) : (if (!decide (z < 0)) = true then -absI z else absI z) = -z := by
  unfold absI
  by_cases h : z < 0 <;> simp [h]
set_option maxRecDepth 100000 in
set_option maxHeartbeats 1000000 in
theorem neg_int (v : Value) (z : Int) (w : World) (h : IsInt w v z) : Calls Tryz.prog 36 #[v] w (RetInt (-z) w) := by
  obtain ⟨x,p,l,c,rfl,hn⟩ := h
  have fr := fun W (g : IsNat W (.agg #[.int .u64 x,.slice p l c]) (absI z)) => from_int (!decide (z < 0)) _ (absI z) W g
  simp only [neg_form] at fr
  generalize decide (z < 0) = b at fr ⊢
  have hW : Below w.heap.size w ((w.alloc (.cells #[.bool b,.int .u64 x,.slice p l c] 28)).alloc (.cells #[.bool false,.int .u64 0,.slice none 0 0] 28)) := by go_grown
  have hr := Row3.new (w.alloc (.cells #[.bool b,.int .u64 x,.slice p l c] 28)) (.bool false) (.int .u64 0) (.slice none 0 0) (w.heap.size + 1) (by simp)
  go_enter Tryz.func36,Tryz.ntmps36
  go_wp2_with fail
  generalize ((w.alloc (.cells #[.bool b,.int .u64 x,.slice p l c] 28)).alloc (.cells #[.bool false,.int .u64 0,.slice none 0 0] 28)) = W at hW hr ⊢
  refine (fr W (hn.below hW)).mono ?_
  rintro e w1 ⟨v1,rfl,⟨x1,p1,l1,k1,rfl,hn1⟩,hb⟩
  have hr1 := hr.below hb hr.lt
  have c0 := hr1.cell0
  have c1 := hr1.cell1
  have c2 := hr1.cell2
  have f0 := hr1.free 0
  have f1 := hr1.free 1
  have f2 := hr1.free 2
  generalize hB : decide (-z < 0) = B at *
  have g3 := hr1.set3 (.bool B) (.int .u64 x1) (.slice p1 l1 k1)
  have hB3 := (((hW.trans (hb.mono hW.size)).setCell (p := ⟨w.heap.size + 1,0,none⟩) (by show w.heap.size ≤ w.heap.size + 1; omega) (.bool B)).setCell (p := ⟨w.heap.size + 1,1,none⟩) (by show w.heap.size ≤ w.heap.size + 1; omega) (.int .u64 x1)).setCell (p := ⟨w.heap.size + 1,2,none⟩) (by show w.heap.size ≤ w.heap.size + 1; omega) (.slice p1 l1 k1)
  have HB := Lib.hid hB
  clear hB
  go_wp2_with fail
  exact bodyPost_int Tryz.results36 rfl rfl g3 HB.out.symm (hn1.row3 hr1 _ _ _) hB3
end Go.Proofs.YtgccgacpifebbaaGreatDoor
namespace Go.Proofs.YtgccgacpifebbaaGreatDoor
open Go.RowKit
set_option linter.unusedVariables false
theorem mul_form (a b : Int) : (if (!(decide (a < 0) == decide (b < 0))) = true then -(absI a * absI b) else absI a * absI b) = a * b := by
  unfold absI
  by_cases ha : a < 0 <;> by_cases hb : b < 0 <;> simp [ha,hb,Int.neg_mul,Int.mul_neg]
theorem Row3.drew {w : World} {c : Nat} {x y z : Value} (h : Row3 w c x y z) : Row3 w.drew c x y z := h
set_option maxRecDepth 100000 in
set_option maxHeartbeats 4000000 in
theorem mul_int (K : Nat) (hK : 1 ≤ K) (hK2 : K < 40) (va vb : Value) (a b : Int) (w : World) (ha : IsInt w va a) (hb : IsInt w vb b) (haK : absI a < pw K) (hbK : absI b < pw K) : Calls Tryz.prog 19 #[va,vb] w (RetInt (a * b) w) := by
  obtain ⟨x,p,l,c,rfl,hx⟩ := ha
  obtain ⟨y,r,m,d,rfl,hy⟩ := hb
  have fr := fun v W (g : IsNat W v (absI a * absI b)) => from_int (!(decide (a < 0) == decide (b < 0))) v _ W g
  simp only [mul_form] at fr
  have mm := fun W (g1 : IsNat W (.agg #[.int .u64 x,.slice p l c]) (absI a)) (g2 : IsNat W (.agg #[.int .u64 y,.slice r m d]) (absI b)) => mul_any K hK hK2 _ _ _ _ W g1 g2 haK hbK
  generalize absI a * absI b = M at fr mm
  generalize a * b = R at fr ⊢
  generalize decide (a < 0) = A at fr ⊢
  generalize decide (b < 0) = B at fr ⊢
  have hW : Below w.heap.size w (((w.alloc (.cells #[.bool A,.int .u64 x,.slice p l c] 28)).alloc (.cells #[.bool B,.int .u64 y,.slice r m d] 28)).alloc (.cells #[.bool false,.int .u64 0,.slice none 0 0] 28)) := by go_grown
  have ra := ((Row3.new w (.bool A) (.int .u64 x) (.slice p l c) w.heap.size rfl).alloc (.cells #[.bool B,.int .u64 y,.slice r m d] 28)).alloc (.cells #[.bool false,.int .u64 0,.slice none 0 0] 28)
  have rb := (Row3.new (w.alloc (.cells #[.bool A,.int .u64 x,.slice p l c] 28)) (.bool B) (.int .u64 y) (.slice r m d) (w.heap.size + 1) (by simp)).alloc (.cells #[.bool false,.int .u64 0,.slice none 0 0] 28)
  have rr := Row3.new ((w.alloc (.cells #[.bool A,.int .u64 x,.slice p l c] 28)).alloc (.cells #[.bool B,.int .u64 y,.slice r m d] 28)) (.bool false) (.int .u64 0) (.slice none 0 0) (w.heap.size + 1 + 1) (by simp)
  have hnx := hx.below hW
  have hny := hy.below hW
  have wsz : w.heap.size + 3 ≤ (((w.alloc (.cells #[.bool A,.int .u64 x,.slice p l c] 28)).alloc (.cells #[.bool B,.int .u64 y,.slice r m d] 28)).alloc (.cells #[.bool false,.int .u64 0,.slice none 0 0] 28)).heap.size := by have := rr.lt; omega
  go_enter Tryz.func19,Tryz.ntmps19
  go_wp2_with fail
  generalize (((w.alloc (.cells #[.bool A,.int .u64 x,.slice p l c] 28)).alloc (.cells #[.bool B,.int .u64 y,.slice r m d] 28)).alloc (.cells #[.bool false,.int .u64 0,.slice none 0 0] 28)) = W at hW ra rb rr hnx hny wsz ⊢
  obtain ⟨q,hq⟩ : ∃ q,w.heap.size = q := ⟨_,rfl⟩
  have hqw : w.heap.size ≤ q + 1 + 1 := by omega
  rw [hq] at ra rb rr wsz ⊢
  have z0 : q < q + 3 := by omega
  have z1 : q + 1 < q + 3 := by omega
  have z2 : q + 1 + 1 < q + 3 := by omega
  have d0 : q ≠ q + 1 + 1 := by omega
  have d1 : q + 1 ≠ q + 1 + 1 := by omega
  have acc := Below.refl (q + 3) W
  have hnxd : IsNat W.drew (.agg #[.int .u64 x,.slice p l c]) (absI a) := hnx
  have hnyd : IsNat W.drew (.agg #[.int .u64 y,.slice r m d]) (absI b) := hny
  have a0 := (ra.below acc z0).cell0
  have a1 := (ra.below acc z0).cell1
  have a2 := (ra.below acc z0).cell2
  have b0 := (rb.below acc z1).cell0
  have b1 := (rb.below acc z1).cell1
  have b2 := (rb.below acc z1).cell2
  have c0 := (rr.below acc z2).cell0
  have c1 := (rr.below acc z2).cell1
  have c2 := (rr.below acc z2).cell2
  have f0 := (rr.below acc z2).free 0
  have f1 := (rr.below acc z2).free 1
  have f2 := (rr.below acc z2).free 2
  go_region_held3 (fun w' => w'.cell? ⟨q,0,none⟩ = some (.bool A) ∧ w'.cell? ⟨q,1,none⟩ = some (.int .u64 x) ∧ w'.cell? ⟨q,2,none⟩ = some (.slice p l c) ∧ w'.cell? ⟨q + 1,0,none⟩ = some (.bool B) ∧ w'.cell? ⟨q + 1,1,none⟩ = some (.int .u64 y) ∧ w'.cell? ⟨q + 1,2,none⟩ = some (.slice r m d))
    (first | with_reducible exact ⟨(ra.below acc z0).cell0,(ra.below acc z0).cell1,(ra.below acc z0).cell2,(rb.below acc z1).cell0,(rb.below acc z1).cell1,(rb.below acc z1).cell2⟩ | with_reducible exact ⟨(ra.below acc z0).drew.cell0,(ra.below acc z0).drew.cell1,(ra.below acc z0).drew.cell2,(rb.below acc z1).drew.cell0,(rb.below acc z1).drew.cell1,(rb.below acc z1).drew.cell2⟩ | with_reducible exact ⟨((((ra.below acc z0).other (a := ⟨q + 1 + 1,0,none⟩) d0 _).other (a := ⟨q + 1 + 1,1,none⟩) d0 _).other (a := ⟨q + 1 + 1,2,none⟩) d0 _).cell0,((((ra.below acc z0).other (a := ⟨q + 1 + 1,0,none⟩) d0 _).other (a := ⟨q + 1 + 1,1,none⟩) d0 _).other (a := ⟨q + 1 + 1,2,none⟩) d0 _).cell1,((((ra.below acc z0).other (a := ⟨q + 1 + 1,0,none⟩) d0 _).other (a := ⟨q + 1 + 1,1,none⟩) d0 _).other (a := ⟨q + 1 + 1,2,none⟩) d0 _).cell2,((((rb.below acc z1).other (a := ⟨q + 1 + 1,0,none⟩) d1 _).other (a := ⟨q + 1 + 1,1,none⟩) d1 _).other (a := ⟨q + 1 + 1,2,none⟩) d1 _).cell0,((((rb.below acc z1).other (a := ⟨q + 1 + 1,0,none⟩) d1 _).other (a := ⟨q + 1 + 1,1,none⟩) d1 _).other (a := ⟨q + 1 + 1,2,none⟩) d1 _).cell1,((((rb.below acc z1).other (a := ⟨q + 1 + 1,0,none⟩) d1 _).other (a := ⟨q + 1 + 1,1,none⟩) d1 _).other (a := ⟨q + 1 + 1,2,none⟩) d1 _).cell2⟩)
    (first
      | (go_at_call 52; (first | (have q1 := mm W hnx hny; (with_reducible refine q1.mono ?_); clear q1) | (have q1 := mm W.drew hnxd hnyd; (with_reducible refine q1.mono ?_); clear q1)); rintro e wa ⟨v1,rfl,hs1,hb⟩; (first | replace hb : Below W.heap.size W wa := hb | replace hb := below_undrew (w := W) hb); replace acc := acc.trans (hb.mono (Nat.le_trans wsz acc.size)); obtain ⟨x1,p1,l1,k1,rfl⟩ := hs1.shape; have a0 := (ra.below acc z0).cell0; have a1 := (ra.below acc z0).cell1; have a2 := (ra.below acc z0).cell2; have b0 := (rb.below acc z1).cell0; have b1 := (rb.below acc z1).cell1; have b2 := (rb.below acc z1).cell2; have c0 := (rr.below acc z2).cell0; have c1 := (rr.below acc z2).cell1; have c2 := (rr.below acc z2).cell2; have f0 := (rr.below acc z2).free 0; have f1 := (rr.below acc z2).free 1; have f2 := (rr.below acc z2).free 2; clear hb)
      | (go_at_call 23; (first | (have q1 := fr _ wa hs1; (with_reducible refine q1.mono ?_); clear q1) | (have q1 := fr _ wa.drew hs1.drew; (with_reducible refine q1.mono ?_); clear q1)); rintro e wb ⟨v2,rfl,⟨x2,p2,l2,k2,rfl,hn2⟩,hb⟩; (first | replace hb : Below wa.heap.size wa wb := hb | replace hb := below_undrew (w := wa) hb); replace acc := acc.trans (hb.mono (Nat.le_trans wsz acc.size)); have a0 := (ra.below acc z0).cell0; have a1 := (ra.below acc z0).cell1; have a2 := (ra.below acc z0).cell2; have b0 := (rb.below acc z1).cell0; have b1 := (rb.below acc z1).cell1; have b2 := (rb.below acc z1).cell2; have c0 := (rr.below acc z2).cell0; have c1 := (rr.below acc z2).cell1; have c2 := (rr.below acc z2).cell2; have f0 := (rr.below acc z2).free 0; have f1 := (rr.below acc z2).free 1; have f2 := (rr.below acc z2).free 2; clear hb))
  all_goals
    have hbw := hW.trans (acc.mono (by have := hW.size; omega))
    have r2 := rr.below acc z2
    have g3 := r2.set3 (.bool (decide (R < 0))) (.int .u64 x2) (.slice p2 l2 k2)
    have hB3 := ((hbw.setCell (p := ⟨q + 1 + 1,0,none⟩) hqw (.bool (decide (R < 0)))).setCell (p := ⟨q + 1 + 1,1,none⟩) hqw (.int .u64 x2)).setCell (p := ⟨q + 1 + 1,2,none⟩) hqw (.slice p2 l2 k2)
    go_wp2_with fail
    exact bodyPost_int Tryz.results19 rfl rfl g3 rfl (hn2.row3 r2 _ _ _) hB3
end Go.Proofs.YtgccgacpifebbaaGreatDoor
