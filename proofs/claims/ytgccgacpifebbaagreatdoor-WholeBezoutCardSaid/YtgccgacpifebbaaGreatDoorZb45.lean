/- WhoL -/
import Derived.Test.YtgccgacpifebbaaGreatDoorZb09
import Derived.Test.YtgccgacpifebbaaGreatDoorZb23
import Derived.Test.YtgccgacpifebbaaGreatDoorZb32
import Derived.Test.YtgccgacpifebbaaGreatDoorZb11
namespace Go.Proofs.YtgccgacpifebbaaGreatDoor
open Go.RowKit
set_option linter.unusedVariables false
end Go.Proofs.YtgccgacpifebbaaGreatDoor
namespace Go.Proofs.YtgccgacpifebbaaGreatDoor
open Go.RowKit
set_option linter.unusedVariables false
/-- The value v is the document's whole number z. -/
def IsR (w : World) (v : Value) (z : Int) : Prop := ∃ b p l c,v = .agg #[.bool b,.slice p l c] ∧ b = decide (z < 0) ∧ IsNum w (.slice p l c) (absI z)
theorem IsR.below {w w' : World} {v : Value} {z : Int} (h : IsR w v z) (hb : Below w.heap.size w w') : IsR w' v z := by
  obtain ⟨b,p,l,c,hv,hz,hn⟩ := h
  exact ⟨b,p,l,c,hv,hz,hn.below hb⟩
def RetR (z : Int) (w : World) (e : Ending) (w' : World) : Prop := ∃ v,e = .returned v ∧ IsR w' v z ∧ Below w.heap.size w w'
theorem IsNum.shape2 {w : World} {s : Value} {n : Int} (h : IsNum w s n) : ∃ p l c,s = .slice p l c ∧ (0 < l ↔ 0 < n) ∧ (l : Int) ≤ 4294967296 := by
  obtain ⟨L,h1,h2,rfl⟩ := h
  obtain ⟨p,c,rfl⟩ := h1.shape
  refine ⟨p,L.length,c,rfl,⟨fun hl => ?_,fun hn => ?_⟩,by have := h1.short; omega⟩
  · have h3 := h2 (by rintro rfl; simp at hl)
    have h4 := lval_low (len := L.length) h1.limbs hl (Nat.le_refl _) h3
    rw [List.take_length] at h4
    have := lpw_pos (L.length - 1)
    omega
  · rcases Nat.eq_zero_or_pos L.length with h0 | h0
    · rw [List.length_eq_zero_iff.1 h0] at hn
      simp [lval] at hn
    · exact h0
/-- A variable of the document's whole number. -/
def RowR (w : World) (c : Nat) (x y : Value) : Prop := w.heap[c]? = some (.cells #[x,y] 32 (0,0))
section
variable {w w' : World} {c : Nat} {x y : Value}
theorem RowR.lt (h : RowR w c x y) : c < w.heap.size := (Array.getElem?_eq_some_iff.1 h).1
theorem RowR.cell0 (h : RowR w c x y) : w.cell? ⟨c,0,none⟩ = some x := by rw [cell_of_row w c 0 _ _ (0,0) h]; rfl
theorem RowR.cell1 (h : RowR w c x y) : w.cell? ⟨c,1,none⟩ = some y := by rw [cell_of_row w c 1 _ _ (0,0) h]; rfl
theorem RowR.free (h : RowR w c x y) (i : Nat) : w.frozen? ⟨c,i,none⟩ = false := frozen_of_row w c i _ _ h
theorem RowR.below {B : Nat} (h : RowR w c x y) (hb : Below B w w') (hc : c < B) : RowR w' c x y := (hb.block c hc).trans h
theorem RowR.new (w : World) (x y : Value) (c : Nat) (hc : c = w.heap.size) : RowR (w.alloc (.cells #[x,y] 32)) c x y := heap_new w _ c hc
theorem RowR.alloc (h : RowR w c x y) (o : Obj) : RowR (w.alloc o) c x y := (heap_alloc_old w o h.lt).trans h
theorem RowR.drew (h : RowR w c x y) : RowR w.drew c x y := h
theorem RowR.set2 (h : RowR w c x y) (x' y' : Value) : RowR ((w.setCell ⟨c,0,none⟩ x').setCell ⟨c,1,none⟩ y') c x' y' := by
  have g1 := heap_setCell_same w c 0 _ _ x' h
  have g2 := heap_setCell_same _ c 1 _ _ y' g1
  exact g2
theorem RowR.other (h : RowR w c x y) {a : Addr} (ha : c ≠ a.block) (v : Value) : RowR (w.setCell a v) c x y := (heap_setCell_other w a c v ha).trans h
end
/-- A number's limbs lie in no variable. -/
theorem Limbed.rowR {w : World} {s : Value} {L : List Int} {c : Nat} {x : Bool} {y : Value} (h : Limbed w s L) (hc : RowR w c (.bool x) y) (i0 i1 : Nat) (u v : Value) : Limbed ((w.setCell ⟨c,i0,none⟩ u).setCell ⟨c,i1,none⟩ v) s L := by
  rcases h with h | ⟨b,t,len,cap,l,hv,ha,r⟩
  · exact .inl h
  · have hne : b ≠ c := by
      rintro rfl
      have h1 : w.heap[b]? = _ := ha
      have h2 : w.heap[b]? = _ := hc
      rw [h1] at h2
      simp only [Option.some.injEq,Obj.cells.injEq] at h2
      have h3 := congrArg (fun a => a[0]?) h2.1
      cases l with
      | nil => simp at h3
      | cons z l => simp at h3
    exact .inr ⟨b,t,len,cap,l,hv,(ha.other (a := ⟨c,i0,none⟩) hne _).other (a := ⟨c,i1,none⟩) hne _,r⟩
theorem IsNum.rowR {w : World} {s : Value} {n : Int} {c : Nat} {x : Bool} {y : Value} (h : IsNum w s n) (hc : RowR w c (.bool x) y) (i0 i1 : Nat) (u v : Value) : IsNum ((w.setCell ⟨c,i0,none⟩ u).setCell ⟨c,i1,none⟩ v) s n := by
  obtain ⟨L,h1,h2,h3⟩ := h
  exact ⟨L,h1.rowR hc i0 i1 u v,h2,h3⟩
theorem bodyPost_R {fn : Func} {p : Tmp} (h : fn.results = #[.cell p 32]) {w w' : World} {a : Act} {pp : Option Addr} {l k : Nat} {b : Bool} {z : Int} {c : Nat} (hd : a.defers = [])
    (hp : a.tmps.getD p undef = .pointer (some ⟨c,0,none⟩)) (hr : RowR w' c (.bool b) (.slice pp l k)) (hb : b = decide (z < 0)) (hn : IsNum w' (.slice pp l k) (absI z)) (hB : Below w.heap.size w w') :
    bodyPost Tryz.prog fn (RetR z w) Exit.ret a w' := by
  refine bodyPost_ret (v := .agg #[.bool b,.slice pp l k]) (results_cell_row h _ _ c _ _ (0,0) _ hp hr Tryz.underlying32 rfl (by kernel_rfl)) hd ⟨_,rfl,⟨b,pp,l,k,rfl,hb,hn⟩,hB⟩
set_option maxRecDepth 100000 in
set_option maxHeartbeats 1000000 in
theorem I_pos (p : Option Addr) (l c : Nat) (n : Int) (w : World) (hl : True) (hB : Hid (false = decide (n < 0) ∧ absI (n) = n)) (hm : (l : Int) ≤ 4294967296) (h : IsNum w (.slice p l c) n) : Calls Tryz.prog 6 #[.bool false,.slice p l c] w (RetR (n) w) := by
  have hr := RowR.new w (.bool false) (.slice none 0 0) _ rfl
  have hb : Below w.heap.size w (w.alloc (.cells #[.bool false,.slice none 0 0] 32)) := by go_grown
  have h00 := h
  replace h := h.below hb
  have c0 := hr.cell0
  have c1 := hr.cell1
  have f0 := hr.free 0
  have f1 := hr.free 1
  go_enter Tryz.func6,Tryz.ntmps6
  go_wp2_with fail
  have hr2 := RowR.new w (.bool false) (.slice p l c) _ rfl
  have hb2 : Below w.heap.size w (w.alloc (.cells #[.bool false,.slice p l c] 32)) := by go_grown
  have hn2 := h00.below hb2
  exact bodyPost_R Tryz.results6 rfl rfl hr2 hB.out.1 (by rw [hB.out.2]; exact hn2) hb2
set_option maxRecDepth 100000 in
set_option maxHeartbeats 1000000 in
theorem I_zero (p : Option Addr) (l c : Nat) (n : Int) (w : World) (hl : ¬ 0 < l) (hB : Hid (false = decide (n < 0) ∧ absI (n) = n)) (hm : (l : Int) ≤ 4294967296) (h : IsNum w (.slice p l c) n) : Calls Tryz.prog 6 #[.bool true,.slice p l c] w (RetR (n) w) := by
  have hr := RowR.new w (.bool false) (.slice none 0 0) _ rfl
  have hb : Below w.heap.size w (w.alloc (.cells #[.bool false,.slice none 0 0] 32)) := by go_grown
  have h00 := h
  replace h := h.below hb
  have c0 := hr.cell0
  have c1 := hr.cell1
  have f0 := hr.free 0
  have f1 := hr.free 1
  go_enter Tryz.func6,Tryz.ntmps6
  go_wp2_with fail
  have hr2 := RowR.new w (.bool false) (.slice p l c) _ rfl
  have hb2 : Below w.heap.size w (w.alloc (.cells #[.bool false,.slice p l c] 32)) := by go_grown
  have hn2 := h00.below hb2
  exact bodyPost_R Tryz.results6 rfl rfl hr2 hB.out.1 (by rw [hB.out.2]; exact hn2) hb2
set_option maxRecDepth 100000 in
set_option maxHeartbeats 1000000 in
theorem I_neg (p : Option Addr) (l c : Nat) (n : Int) (w : World) (hl : 0 < l) (hB : Hid (true = decide (-n < 0) ∧ absI (-n) = n)) (hm : (l : Int) ≤ 4294967296) (h : IsNum w (.slice p l c) n) : Calls Tryz.prog 6 #[.bool true,.slice p l c] w (RetR (-n) w) := by
  have hr := RowR.new w (.bool false) (.slice none 0 0) _ rfl
  have hb : Below w.heap.size w (w.alloc (.cells #[.bool false,.slice none 0 0] 32)) := by go_grown
  have h00 := h
  replace h := h.below hb
  have c0 := hr.cell0
  have c1 := hr.cell1
  have f0 := hr.free 0
  have f1 := hr.free 1
  go_enter Tryz.func6,Tryz.ntmps6
  go_wp2_with fail
  have hr2 := RowR.new w (.bool true) (.slice p l c) _ rfl
  have hb2 : Below w.heap.size w (w.alloc (.cells #[.bool true,.slice p l c] 32)) := by go_grown
  have hn2 := h00.below hb2
  exact bodyPost_R Tryz.results6 rfl rfl hr2 hB.out.1 (by rw [hB.out.2]; exact hn2) hb2
theorem I_any (neg : Bool) (s : Value) (n z : Int) (hz : (if neg = true then -n else n) = z) (w : World) (h : IsNum w s n) : Calls Tryz.prog 6 #[.bool neg,s] w (RetR z w) := by
  have h0 := h.nonneg
  obtain ⟨p,l,c,rfl,hl,hm⟩ := h.shape2
  subst hz
  cases neg
  · exact I_pos p l c n w trivial (Lib.hid ⟨by simp; omega,by unfold absI; rw [if_neg (by omega)]⟩) hm h
  · rcases Nat.eq_zero_or_pos l with hl0 | hl0
    · have hn : n = 0 := by omega
      subst hn
      exact I_zero p l c 0 w (by omega) (Lib.hid ⟨by simp,by decide⟩) hm h
    · have hn : 0 < n := hl.1 hl0
      exact I_neg p l c n w hl0 (Lib.hid ⟨by simp; omega,by unfold absI; rw [if_pos (by omega)]; omega⟩) hm h
theorem hand_num (s : Value) (n : Int) (hn : n < 2 ^ 384) (w : World) (h : IsNum w s n) : Calls Tryz.prog 30 #[s] w (RetNat n w) := by
  have h0 := h.nonneg
  obtain ⟨p,l,c,rfl,hl,hm⟩ := h.shape2
  exact hand_nat n h0 hn p l c w fun w' g => natBytes_num _ n w' (h.below g)
set_option maxRecDepth 100000 in
set_option maxHeartbeats 1000000 in
theorem hand_int (v : Value) (z : Int) (hz : absI z < 2 ^ 384) (w : World) (h : IsR w v z) : Calls Tryz.prog 10 #[v] w (RetInt z w) := by
  obtain ⟨b,p,l,c,rfl,hbz,hn⟩ := h
  have hW : Below w.heap.size w ((w.alloc (.cells #[.bool b,.slice p l c] 32)).alloc (.cells #[.bool false,.int .u64 0,.slice none 0 0] 28)) := by go_grown
  have ra := (RowR.new w (.bool b) (.slice p l c) w.heap.size rfl).alloc (.cells #[.bool false,.int .u64 0,.slice none 0 0] 28)
  have rr := Row3.new (w.alloc (.cells #[.bool b,.slice p l c] 32)) (.bool false) (.int .u64 0) (.slice none 0 0) (w.heap.size + 1) (by simp)
  replace hn := hn.below hW
  have ez : (if b = true then -absI z else absI z) = z := by
    rw [hbz]; unfold absI; by_cases h0 : z < 0 <;> simp [h0]
  have Hbz := Lib.hid hbz
  have hq1 : ∀ W',Below ((w.alloc (.cells #[.bool b,.slice p l c] 32)).alloc (.cells #[.bool false,.int .u64 0,.slice none 0 0] 28)).heap.size ((w.alloc (.cells #[.bool b,.slice p l c] 32)).alloc (.cells #[.bool false,.int .u64 0,.slice none 0 0] 28)) W' → Calls Tryz.prog 30 #[.slice p l c] W' (RetNat (absI z) W') := fun W' hb => hand_num _ _ hz W' (hn.below hb)
  have hq2 : ∀ u W',IsNat W' u (absI z) → Calls Tryz.prog 23 #[.bool b,u] W' (RetInt z W') := fun u W' hu => by
    have := from_int b u (absI z) W' hu
    rw [ez] at this
    exact this
  clear hz hbz ez
  go_enter Tryz.func10,Tryz.ntmps10
  go_wp2_with fail
  generalize ((w.alloc (.cells #[.bool b,.slice p l c] 32)).alloc (.cells #[.bool false,.int .u64 0,.slice none 0 0] 28)) = W at hW ra rr hn hq1 ⊢
  obtain ⟨q,hq⟩ : ∃ q,w.heap.size = q := ⟨_,rfl⟩
  have hqw : w.heap.size ≤ q + 1 := by omega
  rw [hq] at ra rr ⊢
  have z0 := ra.lt
  have z1 := rr.lt
  have d0 : q ≠ q + 1 := by omega
  have acc := Below.refl W.heap.size W
  have a0 := (ra.below acc z0).cell0
  have a1 := (ra.below acc z0).cell1
  have c0 := (rr.below acc z1).cell0
  have c1 := (rr.below acc z1).cell1
  have c2 := (rr.below acc z1).cell2
  have f0 := (rr.below acc z1).free 0
  have f1 := (rr.below acc z1).free 1
  have f2 := (rr.below acc z1).free 2
  go_region_held3 (fun w' => w'.cell? ⟨q,0,none⟩ = some (.bool b) ∧ w'.cell? ⟨q,1,none⟩ = some (.slice p l c))
    (first | with_reducible exact ⟨(ra.below acc z0).cell0,(ra.below acc z0).cell1⟩ | with_reducible exact ⟨(ra.below acc.drew z0).cell0,(ra.below acc.drew z0).cell1⟩ | with_reducible exact ⟨((((ra.below acc z0).other (a := ⟨q + 1,0,none⟩) d0 _).other (a := ⟨q + 1,1,none⟩) d0 _).other (a := ⟨q + 1,2,none⟩) d0 _).cell0,((((ra.below acc z0).other (a := ⟨q + 1,0,none⟩) d0 _).other (a := ⟨q + 1,1,none⟩) d0 _).other (a := ⟨q + 1,2,none⟩) d0 _).cell1⟩)
    (first
      | (go_at_call 30; (first | (have q1 := hq1 _ acc; (with_reducible refine q1.mono ?_); clear q1) | (have q1 := hq1 _ acc.drew; (with_reducible refine q1.mono ?_); clear q1)); rintro e wA ⟨u,rfl,hu,hb⟩; (first | replace acc := below_acc acc acc.size hb | replace acc := below_accD acc acc.size hb); have a0 := (ra.below acc z0).cell0; have a1 := (ra.below acc z0).cell1; have c0 := (rr.below acc z1).cell0; have c1 := (rr.below acc z1).cell1; have c2 := (rr.below acc z1).cell2; have f0 := (rr.below acc z1).free 0; have f1 := (rr.below acc z1).free 1; have f2 := (rr.below acc z1).free 2; clear hb)
      | (go_at_call 23; (first | (have q1 := hq2 _ _ hu; (with_reducible refine q1.mono ?_); clear q1) | (have q1 := hq2 _ _ hu.drew; (with_reducible refine q1.mono ?_); clear q1)); rintro e wB ⟨u2,rfl,⟨x2,p2,l2,k2,rfl,hn2⟩,hb⟩; (first | replace acc := below_acc acc acc.size hb | replace acc := below_accD acc acc.size hb); have a0 := (ra.below acc z0).cell0; have a1 := (ra.below acc z0).cell1; have c0 := (rr.below acc z1).cell0; have c1 := (rr.below acc z1).cell1; have c2 := (rr.below acc z1).cell2; have f0 := (rr.below acc z1).free 0; have f1 := (rr.below acc z1).free 1; have f2 := (rr.below acc z1).free 2; clear hb))
  all_goals
    have hbw := hW.trans (acc.mono hW.size)
    have r2 := rr.below acc z1
    have g3 := r2.set3 (.bool (decide (z < 0))) (.int .u64 x2) (.slice p2 l2 k2)
    have hB3 := ((hbw.setCell (p := ⟨q + 1,0,none⟩) hqw (.bool (decide (z < 0)))).setCell (p := ⟨q + 1,1,none⟩) hqw (.int .u64 x2)).setCell (p := ⟨q + 1,2,none⟩) hqw (.slice p2 l2 k2)
    go_wp2_with fail
    exact bodyPost_int Tryz.results10 rfl rfl g3 rfl (hn2.row3 r2 _ _ _) hB3
theorem IsR.flag {w : World} {v : Value} {z : Int} (h : IsR w v z) : ∃ p l c,v = .agg #[.bool (decide (z < 0)),.slice p l c] ∧ IsNum w (.slice p l c) (absI z) := by
  obtain ⟨b,p,l,c,rfl,rfl,hn⟩ := h
  exact ⟨p,l,c,rfl,hn⟩
end Go.Proofs.YtgccgacpifebbaaGreatDoor
namespace Go.Proofs.YtgccgacpifebbaaGreatDoor
open Go.RowKit
set_option linter.unusedVariables false
/-- At most M bytes,in a row of the call's own. -/
def RetFewM (M N : Nat) (w : World) (e : Ending) (w' : World) : Prop := ∃ g n cap l,e = .returned (.slice (some ⟨g,0,none⟩) n cap) ∧ Arr w' g 5 .u8 l ∧ n ≤ l.length ∧ n ≤ M ∧ n ≤ N ∧ Bytes8 l ∧ Below w.heap.size w w'
set_option maxRecDepth 100000 in
set_option maxHeartbeats 1000000 in
theorem fewM_nil (M N : Nat) (hM : M ≤ 48) (w : World) : Calls Tryz.prog 8 #[.slice none 0 0,.int .i64 (M : Int)] w (RetFewM M N w) := by
  go_enter Tryz.func8,Tryz.ntmps8
  go_wp2
  go_ret
  exact ⟨w.heap.size,0,0,[],rfl,Arr.new w _ _ [] _ rfl,by simp,by omega,by omega,fun _ h => by simp at h,by go_grown⟩
set_option maxRecDepth 100000 in
set_option maxHeartbeats 1000000 in
theorem fewM_any (M N : Nat) (hM0 : 0 < M) (hM : M ≤ 48) (b off len cap : Nat) (zs : List Int) (hN : len ≤ N) (hp : 0 < len) (hl : len ≤ cap) (hz : len ≤ zs.length) (hm : len ≤ 9223372036854775807) (hcm : cap ≤ 9223372036854775807) (hby : Bytes8 zs) (w : World)
    (hc : ∀ j,j < zs.length → w.cell? ⟨b,off + j,none⟩ = some (.int .u8 (zs.getD j 0))) :
    Calls Tryz.prog 8 #[.slice (some ⟨b,off,none⟩) len cap,.int .i64 (M : Int)] w (RetFewM M N w) := by
  obtain ⟨n,hn⟩ : ∃ n : Nat,min len M = n := ⟨_,rfl⟩
  have hni : min (len : Int) (M : Int) = n := by omega
  have hn1 : 0 < n := by omega
  have hn2 : n ≤ len := by omega
  have hn3 : n ≤ M := by omega
  have A : Aside (∀ j,j < zs.length → w.cell? ⟨b,off + j,none⟩ = some (.int .u8 (zs.getD j 0))) := hc
  clear hc
  obtain ⟨i0,hi,hz0,hz1,hz2⟩ := info_parts info8
  have hge := grownCap_ge (w.alloc (.cells #[] 5)) (0 + n) 0 5
  have hrun := run_append_grow (P := Tryz.prog) (w.alloc (.cells #[] 5)) 22 22 5 i0 _ Tryz.underlying22 hi hz0 ⟨w.heap.size,0,none⟩ 0 0 [] (by simp) (by simp) ⟨b,off,none⟩ n cap ((zs.take n).map (Value.int .u8)) (by rw [hz1]; simp; omega) (by
    intro j v hj
    have hjn : j < n ∧ j < zs.length := by
      have := (List.getElem?_eq_some_iff.1 hj).1
      simp at this
      omega
    have hadd : (⟨b,off,none⟩ : Addr).add j = ⟨b,off + j,none⟩ := by unfold Addr.add; split <;> simp_all
    rw [hadd]
    refine Lib.cell?_alloc_some _ ?_
    rw [A.out j hjn.2]
    simp only [List.getElem?_map,List.getElem?_take,if_pos hjn.1] at hj
    rw [← hj]
    simp [List.getD_eq_getElem?_getD,List.getElem?_eq_getElem hjn.2]) (by omega) (by omega) (growslice_fits (by omega) (by rw [hz2]; omega))
  obtain ⟨kap,hcap⟩ : ∃ kap,grownCap (w.alloc (.cells #[] 5)) (0 + n) 0 5 = kap := ⟨_,rfl⟩
  rw [hcap] at hge hrun
  rw [zeroCells_u8] at hrun
  have e0 : (#[] : Array Value) ++ ((zs.take n).map (Value.int .u8)).toArray ++ ((List.replicate (kap - (0 + n)) (0 : Int)).map (Value.int .u8)).toArray = ((zs.take n ++ List.replicate (kap - (0 + n)) 0).map (Value.int .u8)).toArray := by simp
  rw [e0,Nat.zero_add] at hrun
  rw [Nat.zero_add] at hge
  go_enter Tryz.func8,Tryz.ntmps8
  go_wp2_with (at_builtin; refine Lib.wpList_append_run _ rfl _ _ _ _ rfl _ _ rfl rfl _ _ hrun ?_)
  go_wp2
  go_ret
  have hA := Arr.new (w.alloc (.cells #[] 5)) 5 .u8 (zs.take n ++ List.replicate (kap - n) 0) (w.heap.size + 1) (by simp)
  rw [List.map_append,List.map_take,List.map_replicate] at hA
  refine ⟨w.heap.size + 1,n,kap,_,rfl,hA,by simp; omega,hn3,by omega,?_,by go_grown⟩
  intro x hx
  rcases List.mem_append.1 hx with h | h
  · exact hby x (List.mem_of_mem_take h)
  · rw [List.eq_of_mem_replicate h]; exact ⟨by decide,by decide⟩
set_option maxRecDepth 100000 in
set_option maxHeartbeats 1000000 in
theorem fewM_zero (M N : Nat) (hM : M ≤ 48) (a : Addr) (cap : Nat) (hcm : cap ≤ 9223372036854775807) (w : World) : Calls Tryz.prog 8 #[.slice (some a) 0 cap,.int .i64 (M : Int)] w (RetFewM M N w) := by
  have hmin : min (0 : Int) (M : Int) = 0 := by omega
  go_enter Tryz.func8,Tryz.ntmps8
  go_wp2
  go_ret
  exact ⟨w.heap.size,0,0,[],rfl,Arr.new w _ _ [] _ rfl,by simp,by omega,by omega,fun _ h => by simp at h,by go_grown⟩
theorem fewM_arg (M N : Nat) (hM0 : 0 < M) (hM : M ≤ 48) (v : Value) (w : World) (h : BArg w v) (hN : ∀ p l c,v = .slice p l c → l ≤ N) : Calls Tryz.prog 8 #[v,.int .i64 (M : Int)] w (RetFewM M N w) := by
  rcases h with rfl | ⟨a,cap,rfl,hc⟩ | ⟨b,off,len,cap,zs,rfl,h1,h2,h3,h4,h5,h6,hc⟩
  · exact fewM_nil M N hM w
  · exact fewM_zero M N hM a cap hc w
  · exact fewM_any M N hM0 hM b off len cap zs (hN _ _ _ rfl) h1 h2 h3 h4 h5 h6 w hc
theorem natFrom_M (M : Nat) (hM : M ≤ 48) (g n cap : Nat) (l : List Int) (w : World) (ha : Arr w g 5 .u8 l) (hl : n ≤ l.length) (hm : n ≤ M) (hby : Bytes8 l) :
    Calls Tryz.prog 7 #[.slice (some ⟨g,0,none⟩) n cap] w fun e w' => ∃ s N,e = .returned s ∧ IsNum w' s N ∧ N < lpw ((M + 3) / 4) ∧ Below w.heap.size w w' := by
  refine (natFrom_any g 5 n cap l w ha hl (by omega) hby).mono ?_
  rintro e w' ⟨⟨b,len,m,rfl,hb,hlen,hw,hle,hz⟩,hB⟩
  refine ⟨_,_,rfl,isNum_arr hb (by omega) (by omega) hw hz,?_,hB⟩
  have h1 := lval_bd (hw.take len)
  rw [List.length_take,Nat.min_eq_left (by omega)] at h1
  have h2 := lpw_mono (show len ≤ (M + 3) / 4 by omega)
  omega
theorem IsInt.rowR {w : World} {v : Value} {n : Int} {c : Nat} {x : Bool} {y : Value} (h : IsInt w v n) (hc : RowR w c (.bool x) y) (i0 i1 : Nat) (u u' : Value) : IsInt ((w.setCell ⟨c,i0,none⟩ u).setCell ⟨c,i1,none⟩ u') v n := by
  obtain ⟨a,p,l,k,hv,hn⟩ := h
  refine ⟨a,p,l,k,hv,?_⟩
  rcases hn with h | ⟨b,t,len,cap,l,hv,ha,r⟩
  · exact .inl h
  · have hne : b ≠ c := by
      rintro rfl
      have h1 : w.heap[b]? = _ := ha
      have h2 : w.heap[b]? = _ := hc
      rw [h1] at h2
      simp only [Option.some.injEq,Obj.cells.injEq] at h2
      have h3 := congrArg (fun a => a[0]?) h2.1
      cases l with
      | nil => simp at h3
      | cons z l => simp at h3
    exact .inr ⟨b,t,len,cap,l,hv,(ha.other (a := ⟨c,i0,none⟩) hne _).other (a := ⟨c,i1,none⟩) hne _,r⟩
theorem Limbed.row3 {w : World} {s : Value} {L : List Int} {c : Nat} {x : Bool} {y z : Value} (h : Limbed w s L) (hc : Row3 w c (.bool x) y z) (u v t : Value) : Limbed (((w.setCell ⟨c,0,none⟩ u).setCell ⟨c,1,none⟩ v).setCell ⟨c,2,none⟩ t) s L := by
  rcases h with h | ⟨b,t,len,cap,l,hv,ha,r⟩
  · exact .inl h
  · have hne : b ≠ c := by
      rintro rfl
      have h1 : w.heap[b]? = _ := ha
      have h2 : w.heap[b]? = _ := hc
      rw [h1] at h2
      simp only [Option.some.injEq,Obj.cells.injEq] at h2
      have h3 := congrArg (fun a => a[0]?) h2.1
      cases l with
      | nil => simp at h3
      | cons z l => simp at h3
    exact .inr ⟨b,t,len,cap,l,hv,((ha.other (a := ⟨c,0,none⟩) hne _).other (a := ⟨c,1,none⟩) hne _).other (a := ⟨c,2,none⟩) hne _,r⟩
theorem IsNum.row3 {w : World} {s : Value} {n : Int} {c : Nat} {x : Bool} {y z : Value} (h : IsNum w s n) (hc : Row3 w c (.bool x) y z) (u v t : Value) : IsNum (((w.setCell ⟨c,0,none⟩ u).setCell ⟨c,1,none⟩ v).setCell ⟨c,2,none⟩ t) s n := by
  obtain ⟨L,h1,h2,h3⟩ := h
  exact ⟨L,h1.row3 hc u v t,h2,h3⟩
end Go.Proofs.YtgccgacpifebbaaGreatDoor
namespace Go.Proofs.YtgccgacpifebbaaGreatDoor
open Go.RowKit
set_option linter.unusedVariables false
theorem run_loadVar_R {w : World} {c : Nat} {x y : Value} (h : RowR w c x y) : (loadVar 32 ⟨c,0,none⟩).run Tryz.prog w = .ok (.agg #[x,y]) w :=
  run_loadVar_row w c _ 32 #[x,y] (0,0) _ h Tryz.underlying32 rfl (by kernel_rfl)
theorem IsInt.row3 {w : World} {v : Value} {n : Int} {c : Nat} {b : Bool} {x : Int} {p : Option Addr} {l k : Nat} (h : IsInt w v n) (hc : Row3 w c (.bool b) (.int .u64 x) (.slice p l k)) (u u' t : Value) : IsInt (((w.setCell ⟨c,0,none⟩ u).setCell ⟨c,1,none⟩ u').setCell ⟨c,2,none⟩ t) v n := by
  obtain ⟨a,p',l',k',hv,hn⟩ := h
  exact ⟨a,p',l',k',hv,hn.row3 hc u u' t⟩
/-- Two whole numbers,each the program's and the document's. -/
def RetTwoI (L1 L2 : Nat) (w : World) (e : Ending) (w' : World) : Prop := ∃ v1 v2 s1 s2 z1 z2,e = .returned (.tuple #[v1,v2,s1,s2]) ∧ IsInt w' v1 z1 ∧ IsInt w' v2 z2 ∧ IsR w' s1 z1 ∧ IsR w' s2 z2 ∧ absI z1 < lpw L1 ∧ absI z2 < lpw L2 ∧ Below w.heap.size w w'
theorem absI_if (neg : Bool) {n : Int} (h : 0 ≤ n) : absI (if neg = true then -n else n) = n := by
  unfold absI
  cases neg <;> simp <;> omega
theorem pair_I (neg : Bool) (M N : Nat) (hM : M ≤ 48) (g n cap : Nat) (l : List Int) (w : World) (ha : Arr w g 5 .u8 l) (hl : n ≤ l.length) (hm : n ≤ M) (hn : n ≤ N) (hby : Bytes8 l) :
    Calls Tryz.prog 7 #[.slice (some ⟨g,0,none⟩) n cap] w fun e w' => ∃ s z,e = .returned s ∧ (∀ W,Below w'.heap.size w' W → Calls Tryz.prog 6 #[.bool neg,s] W fun e W' => ∃ b p l c,e = .returned (.agg #[.bool b,.slice p l c]) ∧ IsR W' (.agg #[.bool b,.slice p l c]) z ∧ Below W.heap.size W W') ∧ absI z < lpw ((min M N + 3) / 4) ∧ Below w.heap.size w w' := by
  refine (natFrom_M (min M N) (by omega) g n cap l w ha hl (by omega) hby).mono ?_
  rintro e w' ⟨s,X,rfl,hs,hX,hb⟩
  refine ⟨s,if neg = true then -X else X,rfl,fun W hW => ?_,by rw [absI_if neg hs.nonneg]; exact hX,hb⟩
  refine (I_any neg s X _ rfl W (hs.below hW)).mono ?_
  rintro e W' ⟨v,rfl,hv,hB⟩
  obtain ⟨b,p,l,c,rfl,h1,h2⟩ := hv
  exact ⟨b,p,l,c,rfl,⟨b,p,l,c,rfl,h1,h2⟩,hB⟩
theorem lpw_384 {L : Nat} (h : L ≤ 12) : lpw L ≤ 2 ^ 384 := by
  have := lpw_mono h
  rw [lpw_two 12] at this
  exact this
set_option maxRecDepth 100000 in
set_option maxHeartbeats 4000000 in
theorem two2_any (N1 N2 : Nat) (a b : Value) (neg not : Bool) (w : World) (ha : BArg w a) (hb : BArg w b) (hN1 : ∀ p l c,a = .slice p l c → l ≤ N1) (hN2 : ∀ p l c,b = .slice p l c → l ≤ N2) : Calls Tryz.prog 5 #[a,b,.bool neg,.bool not] w (RetTwoI ((min 40 N1 + 3) / 4) ((min 40 N2 + 3) / 4) w) := by
  obtain ⟨L1,hL1⟩ : ∃ L1,(min 40 N1 + 3) / 4 = L1 := ⟨_,rfl⟩
  obtain ⟨L2,hL2⟩ : ∃ L2,(min 40 N2 + 3) / 4 = L2 := ⟨_,rfl⟩
  have l1 : L1 ≤ 12 := by omega
  have l2 : L2 ≤ 12 := by omega
  have k1 := lpw_384 l1
  have k2 := lpw_384 l2
  have fa : ∀ W,Below w.heap.size w W → Calls Tryz.prog 8 #[a,.int .i64 40] W (RetFewM 40 N1 W) := fun W h => fewM_arg 40 N1 (by decide) (by decide) a W (ha.below h) hN1
  have fb : ∀ W,Below w.heap.size w W → Calls Tryz.prog 8 #[b,.int .i64 40] W (RetFewM 40 N2 W) := fun W h => fewM_arg 40 N2 (by decide) (by decide) b W (hb.below h) hN2
  have pa := fun g n cap l W h1 h2 h3 h4 h5 => pair_I neg 40 N1 (by decide) g n cap l W h1 h2 h3 h4 h5
  have pb := fun g n cap l W h1 h2 h3 h4 h5 => pair_I not 40 N2 (by decide) g n cap l W h1 h2 h3 h4 h5
  rw [hL1] at pa ⊢
  rw [hL2] at pb ⊢
  clear hL1 hL2 ha hb hN1 hN2 l1 l2
  have hW : Below w.heap.size w ((((w.alloc (.cells #[.bool false,.int .u64 0,.slice none 0 0] 28)).alloc (.cells #[.bool false,.int .u64 0,.slice none 0 0] 28)).alloc (.cells #[.bool false,.slice none 0 0] 32)).alloc (.cells #[.bool false,.slice none 0 0] 32)) := by go_grown
  have r8 := ((((Row3.new w (.bool false) (.int .u64 0) (.slice none 0 0) w.heap.size rfl).alloc (.cells #[.bool false,.int .u64 0,.slice none 0 0] 28)).alloc (.cells #[.bool false,.slice none 0 0] 32)).alloc (.cells #[.bool false,.slice none 0 0] 32))
  have r9 := (((Row3.new (w.alloc (.cells #[.bool false,.int .u64 0,.slice none 0 0] 28)) (.bool false) (.int .u64 0) (.slice none 0 0) (w.heap.size + 1) (by simp)).alloc (.cells #[.bool false,.slice none 0 0] 32)).alloc (.cells #[.bool false,.slice none 0 0] 32))
  have s10 := ((RowR.new ((w.alloc (.cells #[.bool false,.int .u64 0,.slice none 0 0] 28)).alloc (.cells #[.bool false,.int .u64 0,.slice none 0 0] 28)) (.bool false) (.slice none 0 0) (w.heap.size + 1 + 1) (by simp)).alloc (.cells #[.bool false,.slice none 0 0] 32))
  have s11 := (RowR.new (((w.alloc (.cells #[.bool false,.int .u64 0,.slice none 0 0] 28)).alloc (.cells #[.bool false,.int .u64 0,.slice none 0 0] 28)).alloc (.cells #[.bool false,.slice none 0 0] 32)) (.bool false) (.slice none 0 0) (w.heap.size + 1 + 1 + 1) (by simp))
  go_enter Tryz.func5,Tryz.ntmps5
  go_wp2_with fail
  generalize ((((w.alloc (.cells #[.bool false,.int .u64 0,.slice none 0 0] 28)).alloc (.cells #[.bool false,.int .u64 0,.slice none 0 0] 28)).alloc (.cells #[.bool false,.slice none 0 0] 32)).alloc (.cells #[.bool false,.slice none 0 0] 32)) = W at hW r8 r9 s10 s11 ⊢
  obtain ⟨q,hq⟩ : ∃ q,w.heap.size = q := ⟨_,rfl⟩
  have hqw : w.heap.size ≤ q := by omega
  rw [hq] at r8 r9 s10 s11 ⊢
  refine (fa _ hW).mono ?_
  rintro e w1 ⟨g,n,cap,l,rfl,hg,hn1,hn2,hn3,hby,hb⟩
  replace r8 := r8.below hb r8.lt
  replace r9 := r9.below hb r9.lt
  replace s10 := s10.below hb s10.lt
  replace s11 := s11.below hb s11.lt
  replace hW := hW.trans (hb.mono hW.size)
  clear hb
  go_wp2_with fail
  refine (pa g n cap l w1 hg hn1 hn2 hn3 hby).mono ?_
  rintro e w2 ⟨s,zA,rfl,hI,hzA,hb⟩
  replace r8 := r8.below hb r8.lt
  replace r9 := r9.below hb r9.lt
  replace s10 := s10.below hb s10.lt
  replace s11 := s11.below hb s11.lt
  replace hW := hW.trans (hb.mono hW.size)
  clear hb hg hn1 hn2 hn3 hby
  go_wp2_with fail
  refine (hI _ (Below.refl _ _)).mono ?_
  rintro e w3 ⟨bA,pA,lA,cA,rfl,iA,hb⟩
  replace r8 := r8.below hb r8.lt
  replace r9 := r9.below hb r9.lt
  replace s10 := s10.below hb s10.lt
  replace s11 := s11.below hb s11.lt
  replace hW := hW.trans (hb.mono hW.size)
  clear hb hI
  have hb : Below w3.heap.size w3 (w3.alloc (.cells #[.bool bA,.slice pA lA cA] 32)) := by go_grown
  have vA := RowR.new w3 (.bool bA) (.slice pA lA cA) _ rfl
  have ltA := s11.lt
  replace r8 := r8.below hb r8.lt
  replace r9 := r9.below hb r9.lt
  replace s10 := s10.below hb s10.lt
  replace s11 := s11.below hb s11.lt
  replace iA := iA.below hb
  replace hW := hW.trans (hb.mono hW.size)
  clear hb
  go_wp2_with fail
  generalize (w3.alloc (.cells #[.bool bA,.slice pA lA cA] 32)) = WA at hW vA r8 r9 s10 s11 iA ⊢
  generalize w3.heap.size = qA at vA ltA ⊢
  refine (fb _ hW).mono ?_
  rintro e w4 ⟨g,n,cap,l,rfl,hg,hn1,hn2,hn3,hby,hb⟩
  replace r8 := r8.below hb r8.lt
  replace r9 := r9.below hb r9.lt
  replace s10 := s10.below hb s10.lt
  replace s11 := s11.below hb s11.lt
  replace vA := vA.below hb vA.lt
  replace iA := iA.below hb
  replace hW := hW.trans (hb.mono hW.size)
  clear hb
  go_wp2_with fail
  refine (pb g n cap l w4 hg hn1 hn2 hn3 hby).mono ?_
  rintro e w5 ⟨s,zB,rfl,hI,hzB,hb⟩
  replace r8 := r8.below hb r8.lt
  replace r9 := r9.below hb r9.lt
  replace s10 := s10.below hb s10.lt
  replace s11 := s11.below hb s11.lt
  replace vA := vA.below hb vA.lt
  replace iA := iA.below hb
  replace hW := hW.trans (hb.mono hW.size)
  clear hb hg hn1 hn2 hn3 hby
  go_wp2_with fail
  refine (hI _ (Below.refl _ _)).mono ?_
  rintro e w6 ⟨bB,pB,lB,cB,rfl,iB,hb⟩
  replace r8 := r8.below hb r8.lt
  replace r9 := r9.below hb r9.lt
  replace s10 := s10.below hb s10.lt
  replace s11 := s11.below hb s11.lt
  replace vA := vA.below hb vA.lt
  replace iA := iA.below hb
  replace hW := hW.trans (hb.mono hW.size)
  clear hb hI
  have hb : Below w6.heap.size w6 (w6.alloc (.cells #[.bool bB,.slice pB lB cB] 32)) := by go_grown
  have vB := RowR.new w6 (.bool bB) (.slice pB lB cB) _ rfl
  have ltB := s11.lt
  replace r8 := r8.below hb r8.lt
  replace r9 := r9.below hb r9.lt
  replace s10 := s10.below hb s10.lt
  replace s11 := s11.below hb s11.lt
  replace vA := vA.below hb vA.lt
  replace iA := iA.below hb
  replace iB := iB.below hb
  replace hW := hW.trans (hb.mono hW.size)
  clear hb
  go_wp2_with fail
  generalize (w6.alloc (.cells #[.bool bB,.slice pB lB cB] 32)) = WB at hW vB r8 r9 s10 s11 vA iA iB ⊢
  generalize w6.heap.size = qB at vB ltB ⊢
  clear fa fb pa pb
  have hA := fun W (hb : Below WB.heap.size WB W) => hand_int _ zA (Int.lt_of_lt_of_le hzA k1) W (iA.below hb)
  have hB := fun W (hb : Below WB.heap.size WB W) => hand_int _ zB (Int.lt_of_lt_of_le hzB k2) W (iB.below hb)
  have Hz := Lib.hid (And.intro hzA hzB)
  clear hzA hzB k1 k2
  have tr8 := r8.lt
  have tr9 := r9.lt
  have ts10 := s10.lt
  have ts11 := s11.lt
  have tvA := vA.lt
  have tvB := vB.lt
  have acc := Below.refl WB.heap.size WB
  have r8_0 := (r8.below acc tr8).cell0
  have r8_1 := (r8.below acc tr8).cell1
  have r8_2 := (r8.below acc tr8).cell2
  have fr8_0 := (r8.below acc tr8).free 0
  have fr8_1 := (r8.below acc tr8).free 1
  have fr8_2 := (r8.below acc tr8).free 2
  have r9_0 := (r9.below acc tr9).cell0
  have r9_1 := (r9.below acc tr9).cell1
  have r9_2 := (r9.below acc tr9).cell2
  have fr9_0 := (r9.below acc tr9).free 0
  have fr9_1 := (r9.below acc tr9).free 1
  have fr9_2 := (r9.below acc tr9).free 2
  have s10_0 := (s10.below acc ts10).cell0
  have s10_1 := (s10.below acc ts10).cell1
  have fs10_0 := (s10.below acc ts10).free 0
  have fs10_1 := (s10.below acc ts10).free 1
  have s11_0 := (s11.below acc ts11).cell0
  have s11_1 := (s11.below acc ts11).cell1
  have fs11_0 := (s11.below acc ts11).free 0
  have fs11_1 := (s11.below acc ts11).free 1
  have vA_0 := (vA.below acc tvA).cell0
  have vA_1 := (vA.below acc tvA).cell1
  have vB_0 := (vB.below acc tvB).cell0
  have vB_1 := (vB.below acc tvB).cell1
  have nA0 : qA ≠ q := by omega
  have nA1 : qA ≠ q + 1 := by omega
  have nA2 : qA ≠ q + 1 + 1 := by omega
  have nA3 : qA ≠ q + 1 + 1 + 1 := by omega
  have nB0 : qB ≠ q := by omega
  have nB1 : qB ≠ q + 1 := by omega
  have nB2 : qB ≠ q + 1 + 1 := by omega
  have nB3 : qB ≠ q + 1 + 1 + 1 := by omega
  go_region_held3 (fun w' => w'.cell? ⟨qA,0,none⟩ = some (.bool bA) ∧ w'.cell? ⟨qA,1,none⟩ = some (.slice pA lA cA) ∧ w'.cell? ⟨qB,0,none⟩ = some (.bool bB) ∧ w'.cell? ⟨qB,1,none⟩ = some (.slice pB lB cB))
    (first | with_reducible exact ⟨(vA.below acc tvA).cell0,(vA.below acc tvA).cell1,(vB.below acc tvB).cell0,(vB.below acc tvB).cell1⟩ | with_reducible exact ⟨(vA.below acc.drew tvA).cell0,(vA.below acc.drew tvA).cell1,(vB.below acc.drew tvB).cell0,(vB.below acc.drew tvB).cell1⟩ | with_reducible exact ⟨((((vA.below acc tvA).other (a := ⟨q,0,none⟩) nA0 _).other (a := ⟨q,1,none⟩) nA0 _).other (a := ⟨q,2,none⟩) nA0 _).cell0,((((vA.below acc tvA).other (a := ⟨q,0,none⟩) nA0 _).other (a := ⟨q,1,none⟩) nA0 _).other (a := ⟨q,2,none⟩) nA0 _).cell1,((((vB.below acc tvB).other (a := ⟨q,0,none⟩) nB0 _).other (a := ⟨q,1,none⟩) nB0 _).other (a := ⟨q,2,none⟩) nB0 _).cell0,((((vB.below acc tvB).other (a := ⟨q,0,none⟩) nB0 _).other (a := ⟨q,1,none⟩) nB0 _).other (a := ⟨q,2,none⟩) nB0 _).cell1⟩ | with_reducible exact ⟨(((((((vA.below acc tvA).other (a := ⟨q,0,none⟩) nA0 _).other (a := ⟨q,1,none⟩) nA0 _).other (a := ⟨q,2,none⟩) nA0 _).other (a := ⟨q + 1,0,none⟩) nA1 _).other (a := ⟨q + 1,1,none⟩) nA1 _).other (a := ⟨q + 1,2,none⟩) nA1 _).cell0,(((((((vA.below acc tvA).other (a := ⟨q,0,none⟩) nA0 _).other (a := ⟨q,1,none⟩) nA0 _).other (a := ⟨q,2,none⟩) nA0 _).other (a := ⟨q + 1,0,none⟩) nA1 _).other (a := ⟨q + 1,1,none⟩) nA1 _).other (a := ⟨q + 1,2,none⟩) nA1 _).cell1,(((((((vB.below acc tvB).other (a := ⟨q,0,none⟩) nB0 _).other (a := ⟨q,1,none⟩) nB0 _).other (a := ⟨q,2,none⟩) nB0 _).other (a := ⟨q + 1,0,none⟩) nB1 _).other (a := ⟨q + 1,1,none⟩) nB1 _).other (a := ⟨q + 1,2,none⟩) nB1 _).cell0,(((((((vB.below acc tvB).other (a := ⟨q,0,none⟩) nB0 _).other (a := ⟨q,1,none⟩) nB0 _).other (a := ⟨q,2,none⟩) nB0 _).other (a := ⟨q + 1,0,none⟩) nB1 _).other (a := ⟨q + 1,1,none⟩) nB1 _).other (a := ⟨q + 1,2,none⟩) nB1 _).cell1⟩ | with_reducible exact ⟨(((((((((vA.below acc tvA).other (a := ⟨q,0,none⟩) nA0 _).other (a := ⟨q,1,none⟩) nA0 _).other (a := ⟨q,2,none⟩) nA0 _).other (a := ⟨q + 1,0,none⟩) nA1 _).other (a := ⟨q + 1,1,none⟩) nA1 _).other (a := ⟨q + 1,2,none⟩) nA1 _).other (a := ⟨q + 1 + 1,0,none⟩) nA2 _).other (a := ⟨q + 1 + 1,1,none⟩) nA2 _).cell0,(((((((((vA.below acc tvA).other (a := ⟨q,0,none⟩) nA0 _).other (a := ⟨q,1,none⟩) nA0 _).other (a := ⟨q,2,none⟩) nA0 _).other (a := ⟨q + 1,0,none⟩) nA1 _).other (a := ⟨q + 1,1,none⟩) nA1 _).other (a := ⟨q + 1,2,none⟩) nA1 _).other (a := ⟨q + 1 + 1,0,none⟩) nA2 _).other (a := ⟨q + 1 + 1,1,none⟩) nA2 _).cell1,(((((((((vB.below acc tvB).other (a := ⟨q,0,none⟩) nB0 _).other (a := ⟨q,1,none⟩) nB0 _).other (a := ⟨q,2,none⟩) nB0 _).other (a := ⟨q + 1,0,none⟩) nB1 _).other (a := ⟨q + 1,1,none⟩) nB1 _).other (a := ⟨q + 1,2,none⟩) nB1 _).other (a := ⟨q + 1 + 1,0,none⟩) nB2 _).other (a := ⟨q + 1 + 1,1,none⟩) nB2 _).cell0,(((((((((vB.below acc tvB).other (a := ⟨q,0,none⟩) nB0 _).other (a := ⟨q,1,none⟩) nB0 _).other (a := ⟨q,2,none⟩) nB0 _).other (a := ⟨q + 1,0,none⟩) nB1 _).other (a := ⟨q + 1,1,none⟩) nB1 _).other (a := ⟨q + 1,2,none⟩) nB1 _).other (a := ⟨q + 1 + 1,0,none⟩) nB2 _).other (a := ⟨q + 1 + 1,1,none⟩) nB2 _).cell1⟩ | with_reducible exact ⟨(((((((((((vA.below acc tvA).other (a := ⟨q,0,none⟩) nA0 _).other (a := ⟨q,1,none⟩) nA0 _).other (a := ⟨q,2,none⟩) nA0 _).other (a := ⟨q + 1,0,none⟩) nA1 _).other (a := ⟨q + 1,1,none⟩) nA1 _).other (a := ⟨q + 1,2,none⟩) nA1 _).other (a := ⟨q + 1 + 1,0,none⟩) nA2 _).other (a := ⟨q + 1 + 1,1,none⟩) nA2 _).other (a := ⟨q + 1 + 1 + 1,0,none⟩) nA3 _).other (a := ⟨q + 1 + 1 + 1,1,none⟩) nA3 _).cell0,(((((((((((vA.below acc tvA).other (a := ⟨q,0,none⟩) nA0 _).other (a := ⟨q,1,none⟩) nA0 _).other (a := ⟨q,2,none⟩) nA0 _).other (a := ⟨q + 1,0,none⟩) nA1 _).other (a := ⟨q + 1,1,none⟩) nA1 _).other (a := ⟨q + 1,2,none⟩) nA1 _).other (a := ⟨q + 1 + 1,0,none⟩) nA2 _).other (a := ⟨q + 1 + 1,1,none⟩) nA2 _).other (a := ⟨q + 1 + 1 + 1,0,none⟩) nA3 _).other (a := ⟨q + 1 + 1 + 1,1,none⟩) nA3 _).cell1,(((((((((((vB.below acc tvB).other (a := ⟨q,0,none⟩) nB0 _).other (a := ⟨q,1,none⟩) nB0 _).other (a := ⟨q,2,none⟩) nB0 _).other (a := ⟨q + 1,0,none⟩) nB1 _).other (a := ⟨q + 1,1,none⟩) nB1 _).other (a := ⟨q + 1,2,none⟩) nB1 _).other (a := ⟨q + 1 + 1,0,none⟩) nB2 _).other (a := ⟨q + 1 + 1,1,none⟩) nB2 _).other (a := ⟨q + 1 + 1 + 1,0,none⟩) nB3 _).other (a := ⟨q + 1 + 1 + 1,1,none⟩) nB3 _).cell0,(((((((((((vB.below acc tvB).other (a := ⟨q,0,none⟩) nB0 _).other (a := ⟨q,1,none⟩) nB0 _).other (a := ⟨q,2,none⟩) nB0 _).other (a := ⟨q + 1,0,none⟩) nB1 _).other (a := ⟨q + 1,1,none⟩) nB1 _).other (a := ⟨q + 1,2,none⟩) nB1 _).other (a := ⟨q + 1 + 1,0,none⟩) nB2 _).other (a := ⟨q + 1 + 1,1,none⟩) nB2 _).other (a := ⟨q + 1 + 1 + 1,0,none⟩) nB3 _).other (a := ⟨q + 1 + 1 + 1,1,none⟩) nB3 _).cell1⟩)
    (first
      | (go_at_call 10; (first | (have q1 := hA _ acc; (with_reducible refine q1.mono ?_); clear q1) | (have q1 := hA _ acc.drew; (with_reducible refine q1.mono ?_); clear q1)); rintro e u1 ⟨y1,rfl,⟨x1,o1,m1,d1,rfl,j1⟩,hb⟩; (first | replace j2 := j2.below hb | replace j2 := j2.drew.below hb | skip); (first | replace acc := below_acc acc acc.size hb | replace acc := below_accD acc acc.size hb); have r8_0 := (r8.below acc tr8).cell0; have r8_1 := (r8.below acc tr8).cell1; have r8_2 := (r8.below acc tr8).cell2; have fr8_0 := (r8.below acc tr8).free 0; have fr8_1 := (r8.below acc tr8).free 1; have fr8_2 := (r8.below acc tr8).free 2; have r9_0 := (r9.below acc tr9).cell0; have r9_1 := (r9.below acc tr9).cell1; have r9_2 := (r9.below acc tr9).cell2; have fr9_0 := (r9.below acc tr9).free 0; have fr9_1 := (r9.below acc tr9).free 1; have fr9_2 := (r9.below acc tr9).free 2; have s10_0 := (s10.below acc ts10).cell0; have s10_1 := (s10.below acc ts10).cell1; have fs10_0 := (s10.below acc ts10).free 0; have fs10_1 := (s10.below acc ts10).free 1; have s11_0 := (s11.below acc ts11).cell0; have s11_1 := (s11.below acc ts11).cell1; have fs11_0 := (s11.below acc ts11).free 0; have fs11_1 := (s11.below acc ts11).free 1; have vA_0 := (vA.below acc tvA).cell0; have vA_1 := (vA.below acc tvA).cell1; have vB_0 := (vB.below acc tvB).cell0; have vB_1 := (vB.below acc tvB).cell1; clear hb)
      | (go_at_call 10; (first | (have q1 := hB _ acc; (with_reducible refine q1.mono ?_); clear q1) | (have q1 := hB _ acc.drew; (with_reducible refine q1.mono ?_); clear q1)); rintro e u2 ⟨y2,rfl,⟨x2,o2,m2,d2,rfl,j2⟩,hb⟩; (first | replace j1 := j1.below hb | replace j1 := j1.drew.below hb | skip); (first | replace acc := below_acc acc acc.size hb | replace acc := below_accD acc acc.size hb); have r8_0 := (r8.below acc tr8).cell0; have r8_1 := (r8.below acc tr8).cell1; have r8_2 := (r8.below acc tr8).cell2; have fr8_0 := (r8.below acc tr8).free 0; have fr8_1 := (r8.below acc tr8).free 1; have fr8_2 := (r8.below acc tr8).free 2; have r9_0 := (r9.below acc tr9).cell0; have r9_1 := (r9.below acc tr9).cell1; have r9_2 := (r9.below acc tr9).cell2; have fr9_0 := (r9.below acc tr9).free 0; have fr9_1 := (r9.below acc tr9).free 1; have fr9_2 := (r9.below acc tr9).free 2; have s10_0 := (s10.below acc ts10).cell0; have s10_1 := (s10.below acc ts10).cell1; have fs10_0 := (s10.below acc ts10).free 0; have fs10_1 := (s10.below acc ts10).free 1; have s11_0 := (s11.below acc ts11).cell0; have s11_1 := (s11.below acc ts11).cell1; have fs11_0 := (s11.below acc ts11).free 0; have fs11_1 := (s11.below acc ts11).free 1; have vA_0 := (vA.below acc tvA).cell0; have vA_1 := (vA.below acc tvA).cell1; have vB_0 := (vB.below acc tvB).cell0; have vB_1 := (vB.below acc tvB).cell1; clear hb))
  all_goals
    have e8 := r8.below acc tr8
    have e9 := r9.below acc tr9
    have e10 := s10.below acc ts10
    have e11 := s11.below acc ts11
    have hE := hW.trans (acc.mono hW.size)
    replace iA := iA.below acc
    replace iB := iB.below acc
    obtain ⟨_,_,_,_,eA,fA,nA⟩ := iA
    obtain ⟨_,_,_,_,eB,fB,nB⟩ := iB
    simp only [Value.agg.injEq,Array.mk.injEq,List.cons.injEq,Value.bool.injEq,Value.slice.injEq] at eA eB
    obtain ⟨rfl,⟨rfl,rfl,rfl⟩,_⟩ := eA
    obtain ⟨rfl,⟨rfl,rfl,rfl⟩,_⟩ := eB
    have jj1 : IsInt u2 (.agg #[.bool (decide (zA < 0)),.int .u64 x1,.slice o1 m1 d1]) zA := ⟨_,_,_,_,rfl,j1⟩
    have jj2 : IsInt u2 (.agg #[.bool (decide (zB < 0)),.int .u64 x2,.slice o2 m2 d2]) zB := ⟨_,_,_,_,rfl,j2⟩
    replace jj1 := jj1.row3 e8 (.bool (decide (zA < 0))) (.int .u64 x1) (.slice o1 m1 d1)
    replace jj2 := jj2.row3 e8 (.bool (decide (zA < 0))) (.int .u64 x1) (.slice o1 m1 d1)
    replace nA := nA.row3 e8 (.bool (decide (zA < 0))) (.int .u64 x1) (.slice o1 m1 d1)
    replace nB := nB.row3 e8 (.bool (decide (zA < 0))) (.int .u64 x1) (.slice o1 m1 d1)
    replace e9 := (((e9.other (a := ⟨q,0,none⟩) (by show q + 1 ≠ q; omega) (.bool (decide (zA < 0)))).other (a := ⟨q,1,none⟩) (by show q + 1 ≠ q; omega) (.int .u64 x1)).other (a := ⟨q,2,none⟩) (by show q + 1 ≠ q; omega) (.slice o1 m1 d1))
    replace e10 := (((e10.other (a := ⟨q,0,none⟩) (by show q + 1 + 1 ≠ q; omega) (.bool (decide (zA < 0)))).other (a := ⟨q,1,none⟩) (by show q + 1 + 1 ≠ q; omega) (.int .u64 x1)).other (a := ⟨q,2,none⟩) (by show q + 1 + 1 ≠ q; omega) (.slice o1 m1 d1))
    replace e11 := (((e11.other (a := ⟨q,0,none⟩) (by show q + 1 + 1 + 1 ≠ q; omega) (.bool (decide (zA < 0)))).other (a := ⟨q,1,none⟩) (by show q + 1 + 1 + 1 ≠ q; omega) (.int .u64 x1)).other (a := ⟨q,2,none⟩) (by show q + 1 + 1 + 1 ≠ q; omega) (.slice o1 m1 d1))
    replace e8 := e8.set3 (.bool (decide (zA < 0))) (.int .u64 x1) (.slice o1 m1 d1)
    replace hE := (((hE.setCell (p := ⟨q,0,none⟩) (by show w.heap.size ≤ q; omega) (.bool (decide (zA < 0)))).setCell (p := ⟨q,1,none⟩) (by show w.heap.size ≤ q; omega) (.int .u64 x1)).setCell (p := ⟨q,2,none⟩) (by show w.heap.size ≤ q; omega) (.slice o1 m1 d1))
    replace jj1 := jj1.row3 e9 (.bool (decide (zB < 0))) (.int .u64 x2) (.slice o2 m2 d2)
    replace jj2 := jj2.row3 e9 (.bool (decide (zB < 0))) (.int .u64 x2) (.slice o2 m2 d2)
    replace nA := nA.row3 e9 (.bool (decide (zB < 0))) (.int .u64 x2) (.slice o2 m2 d2)
    replace nB := nB.row3 e9 (.bool (decide (zB < 0))) (.int .u64 x2) (.slice o2 m2 d2)
    replace e8 := (((e8.other (a := ⟨q + 1,0,none⟩) (by show q ≠ q + 1; omega) (.bool (decide (zB < 0)))).other (a := ⟨q + 1,1,none⟩) (by show q ≠ q + 1; omega) (.int .u64 x2)).other (a := ⟨q + 1,2,none⟩) (by show q ≠ q + 1; omega) (.slice o2 m2 d2))
    replace e10 := (((e10.other (a := ⟨q + 1,0,none⟩) (by show q + 1 + 1 ≠ q + 1; omega) (.bool (decide (zB < 0)))).other (a := ⟨q + 1,1,none⟩) (by show q + 1 + 1 ≠ q + 1; omega) (.int .u64 x2)).other (a := ⟨q + 1,2,none⟩) (by show q + 1 + 1 ≠ q + 1; omega) (.slice o2 m2 d2))
    replace e11 := (((e11.other (a := ⟨q + 1,0,none⟩) (by show q + 1 + 1 + 1 ≠ q + 1; omega) (.bool (decide (zB < 0)))).other (a := ⟨q + 1,1,none⟩) (by show q + 1 + 1 + 1 ≠ q + 1; omega) (.int .u64 x2)).other (a := ⟨q + 1,2,none⟩) (by show q + 1 + 1 + 1 ≠ q + 1; omega) (.slice o2 m2 d2))
    replace e9 := e9.set3 (.bool (decide (zB < 0))) (.int .u64 x2) (.slice o2 m2 d2)
    replace hE := (((hE.setCell (p := ⟨q + 1,0,none⟩) (by show w.heap.size ≤ q + 1; omega) (.bool (decide (zB < 0)))).setCell (p := ⟨q + 1,1,none⟩) (by show w.heap.size ≤ q + 1; omega) (.int .u64 x2)).setCell (p := ⟨q + 1,2,none⟩) (by show w.heap.size ≤ q + 1; omega) (.slice o2 m2 d2))
    replace jj1 := jj1.rowR e10 0 1 (.bool bA) (.slice pA lA cA)
    replace jj2 := jj2.rowR e10 0 1 (.bool bA) (.slice pA lA cA)
    replace nA := nA.rowR e10 0 1 (.bool bA) (.slice pA lA cA)
    replace nB := nB.rowR e10 0 1 (.bool bA) (.slice pA lA cA)
    replace e8 := ((e8.other (a := ⟨q + 1 + 1,0,none⟩) (by show q ≠ q + 1 + 1; omega) (.bool bA)).other (a := ⟨q + 1 + 1,1,none⟩) (by show q ≠ q + 1 + 1; omega) (.slice pA lA cA))
    replace e9 := ((e9.other (a := ⟨q + 1 + 1,0,none⟩) (by show q + 1 ≠ q + 1 + 1; omega) (.bool bA)).other (a := ⟨q + 1 + 1,1,none⟩) (by show q + 1 ≠ q + 1 + 1; omega) (.slice pA lA cA))
    replace e11 := ((e11.other (a := ⟨q + 1 + 1,0,none⟩) (by show q + 1 + 1 + 1 ≠ q + 1 + 1; omega) (.bool bA)).other (a := ⟨q + 1 + 1,1,none⟩) (by show q + 1 + 1 + 1 ≠ q + 1 + 1; omega) (.slice pA lA cA))
    replace e10 := e10.set2 (.bool bA) (.slice pA lA cA)
    replace hE := ((hE.setCell (p := ⟨q + 1 + 1,0,none⟩) (by show w.heap.size ≤ q + 1 + 1; omega) (.bool bA)).setCell (p := ⟨q + 1 + 1,1,none⟩) (by show w.heap.size ≤ q + 1 + 1; omega) (.slice pA lA cA))
    replace jj1 := jj1.rowR e11 0 1 (.bool bB) (.slice pB lB cB)
    replace jj2 := jj2.rowR e11 0 1 (.bool bB) (.slice pB lB cB)
    replace nA := nA.rowR e11 0 1 (.bool bB) (.slice pB lB cB)
    replace nB := nB.rowR e11 0 1 (.bool bB) (.slice pB lB cB)
    replace e8 := ((e8.other (a := ⟨q + 1 + 1 + 1,0,none⟩) (by show q ≠ q + 1 + 1 + 1; omega) (.bool bB)).other (a := ⟨q + 1 + 1 + 1,1,none⟩) (by show q ≠ q + 1 + 1 + 1; omega) (.slice pB lB cB))
    replace e9 := ((e9.other (a := ⟨q + 1 + 1 + 1,0,none⟩) (by show q + 1 ≠ q + 1 + 1 + 1; omega) (.bool bB)).other (a := ⟨q + 1 + 1 + 1,1,none⟩) (by show q + 1 ≠ q + 1 + 1 + 1; omega) (.slice pB lB cB))
    replace e10 := ((e10.other (a := ⟨q + 1 + 1 + 1,0,none⟩) (by show q + 1 + 1 ≠ q + 1 + 1 + 1; omega) (.bool bB)).other (a := ⟨q + 1 + 1 + 1,1,none⟩) (by show q + 1 + 1 ≠ q + 1 + 1 + 1; omega) (.slice pB lB cB))
    replace e11 := e11.set2 (.bool bB) (.slice pB lB cB)
    replace hE := ((hE.setCell (p := ⟨q + 1 + 1 + 1,0,none⟩) (by show w.heap.size ≤ q + 1 + 1 + 1; omega) (.bool bB)).setCell (p := ⟨q + 1 + 1 + 1,1,none⟩) (by show w.heap.size ≤ q + 1 + 1 + 1; omega) (.slice pB lB cB))
    go_wp2_with fail
    refine bodyPost_ret (v := .tuple #[.agg #[.bool (decide (zA < 0)),.int .u64 x1,.slice o1 m1 d1],.agg #[.bool (decide (zB < 0)),.int .u64 x2,.slice o2 m2 d2],.agg #[.bool bA,.slice pA lA cA],.agg #[.bool bB,.slice pB lB cB]]) ?_ rfl ⟨_,_,_,_,zA,zB,rfl,jj1,jj2,⟨_,_,_,_,rfl,fA,nA⟩,⟨_,_,_,_,rfl,fB,nB⟩,Hz.out.1,Hz.out.2,hE⟩
    simp [results,Tryz.results5,asAddr,run_loadVar_int e8,run_loadVar_int e9,run_loadVar_R e10,run_loadVar_R e11]
end Go.Proofs.YtgccgacpifebbaaGreatDoor
