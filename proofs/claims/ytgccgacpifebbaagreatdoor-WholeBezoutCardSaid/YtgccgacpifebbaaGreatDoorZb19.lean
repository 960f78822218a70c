/- DivWord -/
import Derived.Test.YtgccgacpifebbaaGreatDoorZb17
import Derived.Stop.RegionWithIn
import Derived.Deep.RegionHeld3
import Derived.Test.YtgccgacpifebbaaGreatDoorZb18
import Derived.Test.YtgccgacpifebbaaGreatDoorZb14
namespace Go.Proofs.YtgccgacpifebbaaGreatDoor
open Go.RowKit Go.Shelf
set_option linter.unusedVariables false
def ρd (x : Nat) : Value := Value.pointer (some (Addr.mk x 0 none))
def ςd (a l c : Nat) : Value := Value.slice (some (Addr.mk a 0 none)) l c
def Id : Bool := true
def Od : Bool := false
def κd0 (w : World) : Nat := w.heap.size
def κd1 (w : World) : Nat := w.heap.size + 1
def κd2 (w : World) : Nat := w.heap.size + 1 + 1
def κd3 (w : World) : Nat := w.heap.size + 1 + 1 + 1
def κd4 (w : World) : Nat := w.heap.size + 1 + 1 + 1 + 1
def κd5 (w : World) : Nat := w.heap.size + 1 + 1 + 1 + 1 + 1
def κd6 (w : World) : Nat := w.heap.size + 1 + 1 + 1 + 1 + 1 + 1
attribute [local go_sem] Oper.semAt_some
/-- Behind k words,the highest: the quotient's words,and what is left. -/
def QuoAt (l lq : List Int) (d : Int) (len k : Nat) (c : Int) : Prop := lq.length = len ∧ Words lq ∧ 0 ≤ c ∧ c < d ∧ seg l (len - k) k = seg lq (len - k) k * d + c
theorem QuoAt.step {l lq : List Int} {d c : Int} {len k : Nat} (h : QuoAt l lq d len k c) (hk : k < len) (hl : len ≤ l.length) (hw : Words l) (hd : Word d) :
    QuoAt l (lq.set (len - 1 - k) ((c * 18446744073709551616 + l.getD (len - 1 - k) 0) / d)) d len (k + 1) ((c * 18446744073709551616 + l.getD (len - 1 - k) 0) % d) := by
  obtain ⟨hlen,hwq,c0,c1,hv⟩ := h
  obtain ⟨j,hj⟩ : ∃ j,len - 1 - k = j := ⟨_,rfl⟩
  have hj1 : len - k = j + 1 := by omega
  have hj2 : len - (k + 1) = j := by omega
  rw [hj1] at hv
  rw [hj]
  have hx := hw.getD j
  have e1 := Int.mul_ediv_add_emod (c * 18446744073709551616 + l.getD j 0) d
  have e2 := Int.emod_nonneg (c * 18446744073709551616 + l.getD j 0) (show d ≠ 0 by omega)
  have e3 := Int.emod_lt_of_pos (c * 18446744073709551616 + l.getD j 0) (show 0 < d by omega)
  have e4 : 0 ≤ (c * 18446744073709551616 + l.getD j 0) / d := Int.ediv_nonneg (by unfold Word at hx; omega) (by omega)
  have e5 : (c * 18446744073709551616 + l.getD j 0) / d < 18446744073709551616 := (Int.ediv_lt_iff_lt_mul (by omega)).2 (by unfold Word at hx; omega)
  refine ⟨by simp [hlen],hwq.set _ ⟨e4,e5⟩,e2,e3,?_⟩
  rw [hj2,seg_cons (by omega),seg_cons (l := lq.set j _) (by simp; omega),getD_set _ _ _ _ (by omega),if_pos rfl,
    seg_congr (l := lq.set j _) (l' := lq) (by simp; omega) (by omega) (fun i h1 h2 => by rw [getD_set _ _ _ _ (by omega),if_neg (by omega)]),hv]
  generalize (c * 18446744073709551616 + l.getD j 0) / d = q at *
  generalize (c * 18446744073709551616 + l.getD j 0) % d = r at *
  rw [Int.mul_add,Int.add_mul,Int.mul_assoc,Int.mul_comm q d]
  omega
theorem QuoAt.done {l lq : List Int} {d c : Int} {len : Nat} (h : QuoAt l lq d len len c) : val (lq.take len) = val (l.take len) / d ∧ c = val (l.take len) % d := by
  obtain ⟨hlen,hwq,c0,c1,hv⟩ := h
  rw [Nat.sub_self,seg_all,seg_all] at hv
  have := half_div (U := val (l.take len)) (Y := d) (q := val (lq.take len)) (by omega) (by omega)
  exact ⟨this.1.symm,by omega⟩
theorem heap_two {W : World} {s c : Nat} (h : s ≠ c) (x y : Value) : ((W.setCell ⟨c,0,none⟩ x).setCell ⟨c,1,none⟩ y).heap[s]? = W.heap[s]? :=
  (heap_setCell_other _ ⟨c,1,none⟩ s y h).trans (heap_setCell_other W ⟨c,0,none⟩ s x h)
/-- What holds at round k. -/
def QuoI (w : World) (b len cap : Nat) (d : Int) (l : List Int) (k : Nat) (W : World) : Prop :=
  (∃ lq c,QuoAt l lq d len k c ∧ Arr W (w.heap.size + 1 + 1 + 1) 23 .u64 lq ∧ W.heap[w.heap.size + 1 + 1 + 1 + 1 + 1]? = some (.cells #[.int .u64 c] 23 (0,0))) ∧
  W.heap[w.heap.size]? = some (.cells #[.int .u64 d] 23 (0,0)) ∧ Var W (w.heap.size + 1) (.int .u64 0) (.slice none 0 0) ∧ Var W (w.heap.size + 1 + 1) (.int .u64 0) (.slice none 0 0) ∧
  W.heap[w.heap.size + 1 + 1 + 1 + 1]? = some (.cells #[.slice (some ⟨w.heap.size + 1 + 1 + 1,0,none⟩) len len] 24 (0,0)) ∧
  W.heap[w.heap.size + 1 + 1 + 1 + 1 + 1 + 1]? = some (.cells #[.slice (some ⟨b,0,none⟩) len cap] 24 (0,0)) ∧ Below w.heap.size w W
theorem quoI_own (w : World) (b len cap B : Nat) (d : Int) (l : List Int) (hB : w.heap.size ≤ B) : OwnFrom B (fun k W => QuoI w b len cap d l k W) := by
  rintro k W W' row ⟨⟨lq,c,hd,ha,hc⟩,h1,h2,h3,h4,h5,hg⟩ hgr hr
  have hr' := fun r e => (hr r e).2
  refine ⟨⟨lq,c,hd,heap_cells ha hgr hr',heap_cells hc hgr hr'⟩,heap_cells h1 hgr hr',⟨heap_cells h2.1 hgr hr',h2.2⟩,⟨heap_cells h3.1 hgr hr',h3.2⟩,heap_cells h4 hgr hr',heap_cells h5 hgr hr',?_⟩
  exact hg.grown hgr hg.size (fun j e => Nat.le_trans hB (hr j e).1)
set_option maxRecDepth 100000 in
set_option maxHeartbeats 4000000 in
theorem divByWord_any (b t len cap : Nat) (l : List Int) (d : Int) (w : World) (ha : Arr w b t .u64 l) (hl : len ≤ l.length) (hm : len ≤ 4294967296) (hw : Words l) (hd : Word d) (h0 : d ≠ 0) :
    Calls Tryz.prog 74 #[.slice (some ⟨b,0,none⟩) len cap,.int .u64 d] w (RetTwo (val (l.take len) / d) (val (l.take len) % d) w) := by
  have hmk := make64 len len rfl (by omega)
  have k1 := ha.lt
  have i0 : QuoI w b len cap d l 0 (((((((w.alloc (.cells #[.int .u64 d] 23)).alloc (.cells #[.int .u64 0,.slice none 0 0] 26)).alloc (.cells #[.int .u64 0,.slice none 0 0] 26)).alloc (.cells (zeros .u64 len) 23)).alloc (.cells #[.slice (some ⟨w.heap.size + 1 + 1 + 1,0,none⟩) len len] 24)).alloc (.cells #[.int .u64 0] 23)).alloc (.cells #[.slice (some ⟨b,0,none⟩) len cap] 24)) := by
    refine ⟨⟨List.replicate len 0,0,⟨by simp,Words.replicate _,Int.le_refl _,by unfold Word at hd; omega,by simp [seg_zero]⟩,?_,?_⟩,?_,?_,?_,?_,?_,by go_grown⟩
    · exact (((Arr.zeros _ _ _ len _ (by simp)).alloc _).alloc _).alloc _
    · exact (heap_old _ _ _ (by simp)).trans (heap_new _ _ _ (by simp))
    · exact (heap_old _ _ _ (by simp; omega)).trans ((heap_old _ _ _ (by simp; omega)).trans ((heap_old _ _ _ (by simp; omega)).trans ((heap_old _ _ _ (by simp; omega)).trans ((heap_old _ _ _ (by simp; omega)).trans ((heap_old _ _ _ (by simp)).trans (heap_new _ _ _ rfl))))))
    · exact (((((Var.new _ _ _ none 0 0 (by simp)).alloc _).alloc _).alloc _).alloc _).alloc _
    · exact ((((Var.new _ _ _ none 0 0 (by simp)).alloc _).alloc _).alloc _).alloc _
    · exact (heap_old _ _ _ (by simp)).trans ((heap_old _ _ _ (by simp)).trans (heap_new _ _ _ (by simp)))
    · exact heap_new _ _ _ (by simp)
  have hz : (((((((w.alloc (.cells #[.int .u64 d] 23)).alloc (.cells #[.int .u64 0,.slice none 0 0] 26)).alloc (.cells #[.int .u64 0,.slice none 0 0] 26)).alloc (.cells (zeros .u64 len) 23)).alloc (.cells #[.slice (some ⟨w.heap.size + 1 + 1 + 1,0,none⟩) len len] 24)).alloc (.cells #[.int .u64 0] 23)).alloc (.cells #[.slice (some ⟨b,0,none⟩) len cap] 24)).heap.size = w.heap.size + 1 + 1 + 1 + 1 + 1 + 1 + 1 := by simp
  refine (callsIn_wide (n := 5)).1 ?_
  refine callsIn_of_wp_marks Tryz.func74 rfl trivial ?_ rfl
  simp only [Tryz.ntmps74,List.size_toArray,List.length_cons,List.length_nil,Nat.reduceAdd,Nat.reduceSub,Array.replicate_succ,Array.replicate_zero,List.push_toArray,List.append_toArray,List.nil_append,List.cons_append]
  gi_wp2_with (refine ⟨trivial,?_⟩; gi_at_call 57; refine (back_in Fence.wide 4 trivial rfl _ _ _ _).mono ?_; rintro e w' ⟨rfl,rfl⟩)
  generalize (((((((w.alloc (.cells #[.int .u64 d] 23)).alloc (.cells #[.int .u64 0,.slice none 0 0] 26)).alloc (.cells #[.int .u64 0,.slice none 0 0] 26)).alloc (.cells (zeros .u64 len) 23)).alloc (.cells #[.slice (some ⟨w.heap.size + 1 + 1 + 1,0,none⟩) len len] 24)).alloc (.cells #[.int .u64 0] 23)).alloc (.cells #[.slice (some ⟨b,0,none⟩) len cap] 24)) = W0 at i0 hz ⊢
  refine wpIn_steps rfl (by decide) (gf := 87) (lb := #[.pointer (some ⟨w.heap.size + 1 + 1 + 1 + 1 + 1 + 1,0,none⟩)]) rfl trivial (enters_of Tryz.func87 (by kernel_rfl) rfl)
    len (fun k => #[.int .i64 ((len - 1 - k : Nat) : Int),.int .u64 (l.getD (len - 1 - k) 0)]) (fun _ => rfl) (fun k W => QuoI w b len cap d l k W) (quoI_own w b len cap _ d l (by omega)) i0
    (fun l' J W hJ _ hY h0 => back_steps Fence.wide 4 trivial rfl (by decide) l' (w.heap.size + 1 + 1 + 1 + 1 + 1 + 1) len cap (some ⟨b,0,none⟩) (fun k => l.getD (len - 1 - k) 0) (by omega) J (fun k W h => ?cells) hY W h0)
    (fun k => { tmps := #[.slice (some ⟨b,0,none⟩) len cap,.int .u64 d,undef,.pointer (some ⟨w.heap.size,0,none⟩),.pointer (some ⟨w.heap.size + 1,0,none⟩),.pointer (some ⟨w.heap.size + 1 + 1,0,none⟩),.pointer (some ⟨w.heap.size + 1 + 1 + 1 + 1,0,none⟩),.pointer (some ⟨w.heap.size + 1 + 1 + 1 + 1 + 1,0,none⟩),.int .i64 ((len - 1 - k : Nat) : Int),.int .u64 (l.getD (len - 1 - k) 0),.slice (some ⟨b,0,none⟩) len cap,.int .i64 len,.slice (some ⟨w.heap.size + 1 + 1 + 1,0,none⟩) len len,.slice (some ⟨b,0,none⟩) len cap,.func (.func 87) #[] #[.pointer (some ⟨w.heap.size + 1 + 1 + 1 + 1 + 1 + 1,0,none⟩)],.int .i64 ((len - 1 - k : Nat) : Int),.int .u64 (l.getD (len - 1 - k) 0),undef,undef,undef,undef,undef,undef,undef,undef,undef,undef,undef,undef,undef,undef],defers := [] }) ?assign ?body ?done
  case cells =>
    obtain ⟨_,h1,h2,h3,h4,h5,hg⟩ := hJ k W h
    exact ⟨by rw [cell_of_row W _ 0 _ _ (0,0) h5]; rfl,fun hk => ⟨b,rfl,(ha.below hg k1).cell (len - 1 - k) (by omega)⟩⟩
  case assign =>
    intro l' k W K hK
    generalize l.getD (len - 1 - k) 0 = z at hK ⊢
    generalize len - 1 - k = j at hK ⊢
    gi_wp2
    exact hK
  case body =>
    rintro l' k W hk ⟨⟨lq,c,hq,haq,hc⟩,h1,h2,h3,h4,h5,hg⟩
    have st := hq.step hk hl hw hd
    have hcz := haq.cell (len - 1 - k) (by rw [hq.1]; omega)
    have hfz := haq.free (len - 1 - k)
    have hx := hw.getD (len - 1 - k)
    obtain ⟨j,hj⟩ : ∃ j,len - 1 - k = j := ⟨_,rfl⟩
    have hjl : j < len := by omega
    rw [hj] at st hcz hfz hx ⊢
    generalize l.getD j 0 = x at st hx ⊢
    have q64 := div64_draws c x d ⟨hq.2.2.1,by have := hq.2.2.2.1; unfold Word at hd; omega⟩ hx hd hq.2.2.2.1
    generalize (c * 18446744073709551616 + x) / d = q at st q64
    generalize (c * 18446744073709551616 + x) % d = r at st q64
    generalize lq.getD j 0 = z at hcz
    obtain ⟨qb,hqb⟩ : ∃ qb,w.heap.size + 1 + 1 + 1 = qb := ⟨_,rfl⟩
    have b0 : W.cell? ⟨w.heap.size,0,none⟩ = some (.int .u64 d) := by rw [cell_of_row W _ 0 _ _ (0,0) h1]; rfl
    have b1 : W.cell? ⟨w.heap.size + 1 + 1 + 1 + 1,0,none⟩ = some (.slice (some ⟨w.heap.size + 1 + 1 + 1,0,none⟩) len len) := by rw [cell_of_row W _ 0 _ _ (0,0) h4]; rfl
    have b2 : W.cell? ⟨w.heap.size + 1 + 1 + 1 + 1 + 1,0,none⟩ = some (.int .u64 c) := by rw [cell_of_row W _ 0 _ _ (0,0) hc]; rfl
    have f2 : W.frozen? ⟨w.heap.size + 1 + 1 + 1 + 1 + 1,0,none⟩ = false := frozen_of_row W _ 0 _ _ hc
    have i0 : (0 : Int) ≤ (j : Int) := by omega
    have i1 : (j : Int) < (len : Int) := by omega
    clear hqb
    gi_wp2
    refine region_ways (by kernel_rfl) fun R hR => ?_
    have Uu := fun (n : Nat) (l : Array Bool) (a : Act) (w : World) (h : R n l a w) => cast (congrFun (congrFun (congrFun (congrFun hR.symm n) l) a) w) h
    have H0 : ∀ nd : Nat,R 0 #[Id,Id,Id,Id,Id,Id,Id,Id,Id,Id,Id,Id] { tmps := #[ςd b len cap,.int .u64 d,undef,ρd (κd0 w),ρd (κd1 w),ρd (κd2 w),ρd (κd4 w),ρd (κd5 w),.int .i64 (j : Int),.int .u64 x,ςd b len cap,.int .i64 len,ςd (κd3 w) len len,ςd b len cap,.func (.func 87) #[] #[ρd (κd6 w)],.int .i64 (j : Int),.int .u64 x,.tuple #[.int .u64 q,.int .u64 r],ςd (κd3 w) len len,.int .i64 (j : Int),.int .u64 c,.int .u64 x,.int .u64 d,.tuple #[.int .u64 q,.int .u64 r],.int .u64 q,.int .u64 r,.pointer (some ⟨w.heap.size + 1 + 1 + 1,j,none⟩),undef,undef,undef,undef],defers := [] } (((W.drewN nd).setCell ⟨w.heap.size + 1 + 1 + 1,j,none⟩ (.int .u64 q)).setCell ⟨w.heap.size + 1 + 1 + 1 + 1 + 1,0,none⟩ (.int .u64 r)) := by
      intro nd
      rw [← hR]
      dsimp only [ρd,ςd,κd0,κd1,κd2,κd3,κd4,κd5,κd6]
      refine wpAnyIn_done (by kernel_rfl) ?_ _
      gi_wp2
      have kk := (KeepsOthers.setCell (W.drewN nd) ⟨w.heap.size + 1 + 1 + 1,j,none⟩ (.int .u64 q)).trans (KeepsOthers.setCell ((W.drewN nd).setCell ⟨w.heap.size + 1 + 1 + 1,j,none⟩ (.int .u64 q)) ⟨w.heap.size + 1 + 1 + 1 + 1 + 1,0,none⟩ (.int .u64 r))
      have kf := kk.from W0.heap.size
      have oth : ∀ (s : Nat),s ≠ w.heap.size + 1 + 1 + 1 → s ≠ w.heap.size + 1 + 1 + 1 + 1 + 1 → (((W.drewN nd).setCell ⟨w.heap.size + 1 + 1 + 1,j,none⟩ (.int .u64 q)).setCell ⟨w.heap.size + 1 + 1 + 1 + 1 + 1,0,none⟩ (.int .u64 r)).heap[s]? = W.heap[s]? := fun s e1 e2 =>
        (heap_setCell_other _ ⟨w.heap.size + 1 + 1 + 1 + 1 + 1,0,none⟩ s _ e2).trans (heap_setCell_other (W.drewN nd) ⟨w.heap.size + 1 + 1 + 1,j,none⟩ s _ e1)
      refine ⟨⟨kf.size,kf.same⟩,⟨_,_,st,?_,?_⟩,(oth _ (by omega) (by omega)).trans h1,⟨(oth _ (by omega) (by omega)).trans h2.1,h2.2⟩,⟨(oth _ (by omega) (by omega)).trans h3.1,h3.2⟩,(oth _ (by omega) (by omega)).trans h4,(oth _ (by omega) (by omega)).trans h5,?_⟩
      · exact ((haq.drewN nd).set j q).other (by show w.heap.size + 1 + 1 + 1 ≠ w.heap.size + 1 + 1 + 1 + 1 + 1; omega) _
      · exact heap_setCell_same _ _ 0 _ _ _ ((heap_setCell_other (W.drewN nd) ⟨w.heap.size + 1 + 1 + 1,j,none⟩ _ _ (by show w.heap.size + 1 + 1 + 1 + 1 + 1 ≠ w.heap.size + 1 + 1 + 1; omega)).trans hc)
      · exact ((below_drewN hg nd).setCell (p := ⟨w.heap.size + 1 + 1 + 1,j,none⟩) (by show w.heap.size ≤ w.heap.size + 1 + 1 + 1; omega) _).setCell (p := ⟨w.heap.size + 1 + 1 + 1 + 1 + 1,0,none⟩) (by show w.heap.size ≤ w.heap.size + 1 + 1 + 1 + 1 + 1; omega) _
    have H1 : ∀ nd : Nat,R 1 #[Id,Id,Id,Id,Id,Id,Id,Id,Id,Id,Id,Od] { tmps := #[ςd b len cap,.int .u64 d,undef,ρd (κd0 w),ρd (κd1 w),ρd (κd2 w),ρd (κd4 w),ρd (κd5 w),.int .i64 (j : Int),.int .u64 x,ςd b len cap,.int .i64 len,ςd (κd3 w) len len,ςd b len cap,.func (.func 87) #[] #[ρd (κd6 w)],.int .i64 (j : Int),.int .u64 x,.tuple #[.int .u64 q,.int .u64 r],ςd (κd3 w) len len,.int .i64 (j : Int),.int .u64 c,.int .u64 x,.int .u64 d,.tuple #[.int .u64 q,.int .u64 r],.int .u64 q,.int .u64 r,.pointer (some ⟨w.heap.size + 1 + 1 + 1,j,none⟩),undef,undef,undef,undef],defers := [] } ((W.drewN nd).setCell ⟨w.heap.size + 1 + 1 + 1,j,none⟩ (.int .u64 q)) := by
      intro nd
      rw [← hR]
      dsimp only [ρd,ςd,κd0,κd1,κd2,κd3,κd4,κd5,κd6]
      refine wpAnyIn_ready (rs := [11]) (by kernel_rfl) (by simp) ?_
      refine AllReadyIn.cons rfl (fun K hK => ?_) ?_
      · go_simp
        exact hK _ _ (Uu _ _ _ _ (H0 nd))
      exact AllReadyIn.nil
    have H2 : ∀ nd : Nat,R 2 #[Id,Id,Id,Id,Id,Id,Id,Id,Id,Id,Od,Od] { tmps := #[ςd b len cap,.int .u64 d,undef,ρd (κd0 w),ρd (κd1 w),ρd (κd2 w),ρd (κd4 w),ρd (κd5 w),.int .i64 (j : Int),.int .u64 x,ςd b len cap,.int .i64 len,ςd (κd3 w) len len,ςd b len cap,.func (.func 87) #[] #[ρd (κd6 w)],.int .i64 (j : Int),.int .u64 x,.tuple #[.int .u64 q,.int .u64 r],ςd (κd3 w) len len,.int .i64 (j : Int),.int .u64 c,.int .u64 x,.int .u64 d,.tuple #[.int .u64 q,.int .u64 r],.int .u64 q,.int .u64 r,.pointer (some ⟨w.heap.size + 1 + 1 + 1,j,none⟩),undef,undef,undef,undef],defers := [] } (W.drewN nd) := by
      intro nd
      rw [← hR]
      dsimp only [ρd,ςd,κd0,κd1,κd2,κd3,κd4,κd5,κd6]
      refine wpAnyIn_ready (rs := [10]) (by kernel_rfl) (by simp) ?_
      refine AllReadyIn.cons rfl (fun K hK => ?_) ?_
      · go_simp
        exact hK _ _ (Uu _ _ _ _ (H1 nd))
      exact AllReadyIn.nil
    have H3 : ∀ nd : Nat,R 3 #[Id,Id,Id,Id,Id,Id,Id,Id,Id,Od,Od,Od] { tmps := #[ςd b len cap,.int .u64 d,undef,ρd (κd0 w),ρd (κd1 w),ρd (κd2 w),ρd (κd4 w),ρd (κd5 w),.int .i64 (j : Int),.int .u64 x,ςd b len cap,.int .i64 len,ςd (κd3 w) len len,ςd b len cap,.func (.func 87) #[] #[ρd (κd6 w)],.int .i64 (j : Int),.int .u64 x,.tuple #[.int .u64 q,.int .u64 r],ςd (κd3 w) len len,.int .i64 (j : Int),.int .u64 c,.int .u64 x,.int .u64 d,.tuple #[.int .u64 q,.int .u64 r],.int .u64 q,.int .u64 r,undef,undef,undef,undef,undef],defers := [] } (W.drewN nd) := by
      intro nd
      rw [← hR]
      dsimp only [ρd,ςd,κd0,κd1,κd2,κd3,κd4,κd5,κd6]
      refine wpAnyIn_ready (rs := [9]) (by kernel_rfl) (by simp) ?_
      refine AllReadyIn.cons rfl (fun K hK => ?_) ?_
      · go_simp
        exact hK _ _ (Uu _ _ _ _ (H2 nd))
      exact AllReadyIn.nil
    have H4 : ∀ nd : Nat,R 2 #[Id,Id,Id,Id,Id,Id,Id,Id,Od,Id,Id,Od] { tmps := #[ςd b len cap,.int .u64 d,undef,ρd (κd0 w),ρd (κd1 w),ρd (κd2 w),ρd (κd4 w),ρd (κd5 w),.int .i64 (j : Int),.int .u64 x,ςd b len cap,.int .i64 len,ςd (κd3 w) len len,ςd b len cap,.func (.func 87) #[] #[ρd (κd6 w)],.int .i64 (j : Int),.int .u64 x,.tuple #[.int .u64 q,.int .u64 r],ςd (κd3 w) len len,.int .i64 (j : Int),.int .u64 c,.int .u64 x,.int .u64 d,.tuple #[.int .u64 q,.int .u64 r],.int .u64 q,undef,.pointer (some ⟨w.heap.size + 1 + 1 + 1,j,none⟩),undef,undef,undef,undef],defers := [] } ((W.drewN nd).setCell ⟨w.heap.size + 1 + 1 + 1,j,none⟩ (.int .u64 q)) := by
      intro nd
      rw [← hR]
      dsimp only [ρd,ςd,κd0,κd1,κd2,κd3,κd4,κd5,κd6]
      refine wpAnyIn_ready (rs := [8]) (by kernel_rfl) (by simp) ?_
      refine AllReadyIn.cons rfl (fun K hK => ?_) ?_
      · go_simp
        exact hK _ _ (Uu _ _ _ _ (H1 nd))
      exact AllReadyIn.nil
    have H5 : ∀ nd : Nat,R 3 #[Id,Id,Id,Id,Id,Id,Id,Id,Od,Id,Od,Od] { tmps := #[ςd b len cap,.int .u64 d,undef,ρd (κd0 w),ρd (κd1 w),ρd (κd2 w),ρd (κd4 w),ρd (κd5 w),.int .i64 (j : Int),.int .u64 x,ςd b len cap,.int .i64 len,ςd (κd3 w) len len,ςd b len cap,.func (.func 87) #[] #[ρd (κd6 w)],.int .i64 (j : Int),.int .u64 x,.tuple #[.int .u64 q,.int .u64 r],ςd (κd3 w) len len,.int .i64 (j : Int),.int .u64 c,.int .u64 x,.int .u64 d,.tuple #[.int .u64 q,.int .u64 r],.int .u64 q,undef,.pointer (some ⟨w.heap.size + 1 + 1 + 1,j,none⟩),undef,undef,undef,undef],defers := [] } (W.drewN nd) := by
      intro nd
      rw [← hR]
      dsimp only [ρd,ςd,κd0,κd1,κd2,κd3,κd4,κd5,κd6]
      refine wpAnyIn_ready (rs := [8,10]) (by kernel_rfl) (by simp) ?_
      refine AllReadyIn.cons rfl (fun K hK => ?_) ?_
      · go_simp
        exact hK _ _ (Uu _ _ _ _ (H2 nd))
      refine AllReadyIn.cons rfl (fun K hK => ?_) ?_
      · go_simp
        exact hK _ _ (Uu _ _ _ _ (H4 nd))
      exact AllReadyIn.nil
    have H6 : ∀ nd : Nat,R 4 #[Id,Id,Id,Id,Id,Id,Id,Id,Od,Od,Od,Od] { tmps := #[ςd b len cap,.int .u64 d,undef,ρd (κd0 w),ρd (κd1 w),ρd (κd2 w),ρd (κd4 w),ρd (κd5 w),.int .i64 (j : Int),.int .u64 x,ςd b len cap,.int .i64 len,ςd (κd3 w) len len,ςd b len cap,.func (.func 87) #[] #[ρd (κd6 w)],.int .i64 (j : Int),.int .u64 x,.tuple #[.int .u64 q,.int .u64 r],ςd (κd3 w) len len,.int .i64 (j : Int),.int .u64 c,.int .u64 x,.int .u64 d,.tuple #[.int .u64 q,.int .u64 r],.int .u64 q,undef,undef,undef,undef,undef,undef],defers := [] } (W.drewN nd) := by
      intro nd
      rw [← hR]
      dsimp only [ρd,ςd,κd0,κd1,κd2,κd3,κd4,κd5,κd6]
      refine wpAnyIn_ready (rs := [8,9]) (by kernel_rfl) (by simp) ?_
      refine AllReadyIn.cons rfl (fun K hK => ?_) ?_
      · go_simp
        exact hK _ _ (Uu _ _ _ _ (H3 nd))
      refine AllReadyIn.cons rfl (fun K hK => ?_) ?_
      · go_simp
        exact hK _ _ (Uu _ _ _ _ (H5 nd))
      exact AllReadyIn.nil
    have H7 : ∀ nd : Nat,R 4 #[Id,Id,Id,Id,Id,Id,Id,Od,Id,Od,Od,Od] { tmps := #[ςd b len cap,.int .u64 d,undef,ρd (κd0 w),ρd (κd1 w),ρd (κd2 w),ρd (κd4 w),ρd (κd5 w),.int .i64 (j : Int),.int .u64 x,ςd b len cap,.int .i64 len,ςd (κd3 w) len len,ςd b len cap,.func (.func 87) #[] #[ρd (κd6 w)],.int .i64 (j : Int),.int .u64 x,.tuple #[.int .u64 q,.int .u64 r],ςd (κd3 w) len len,.int .i64 (j : Int),.int .u64 c,.int .u64 x,.int .u64 d,.tuple #[.int .u64 q,.int .u64 r],undef,.int .u64 r,undef,undef,undef,undef,undef],defers := [] } (W.drewN nd) := by
      intro nd
      rw [← hR]
      dsimp only [ρd,ςd,κd0,κd1,κd2,κd3,κd4,κd5,κd6]
      refine wpAnyIn_ready (rs := [7]) (by kernel_rfl) (by simp) ?_
      refine AllReadyIn.cons rfl (fun K hK => ?_) ?_
      · go_simp
        exact hK _ _ (Uu _ _ _ _ (H3 nd))
      exact AllReadyIn.nil
    have H8 : ∀ nd : Nat,R 5 #[Id,Id,Id,Id,Id,Id,Id,Od,Od,Od,Od,Od] { tmps := #[ςd b len cap,.int .u64 d,undef,ρd (κd0 w),ρd (κd1 w),ρd (κd2 w),ρd (κd4 w),ρd (κd5 w),.int .i64 (j : Int),.int .u64 x,ςd b len cap,.int .i64 len,ςd (κd3 w) len len,ςd b len cap,.func (.func 87) #[] #[ρd (κd6 w)],.int .i64 (j : Int),.int .u64 x,.tuple #[.int .u64 q,.int .u64 r],ςd (κd3 w) len len,.int .i64 (j : Int),.int .u64 c,.int .u64 x,.int .u64 d,.tuple #[.int .u64 q,.int .u64 r],undef,undef,undef,undef,undef,undef,undef],defers := [] } (W.drewN nd) := by
      intro nd
      rw [← hR]
      dsimp only [ρd,ςd,κd0,κd1,κd2,κd3,κd4,κd5,κd6]
      refine wpAnyIn_ready (rs := [7,8]) (by kernel_rfl) (by simp) ?_
      refine AllReadyIn.cons rfl (fun K hK => ?_) ?_
      · go_simp
        exact hK _ _ (Uu _ _ _ _ (H6 nd))
      refine AllReadyIn.cons rfl (fun K hK => ?_) ?_
      · go_simp
        exact hK _ _ (Uu _ _ _ _ (H7 nd))
      exact AllReadyIn.nil
    have H9 : ∀ nd : Nat,R 6 #[Id,Id,Id,Id,Id,Id,Od,Od,Od,Od,Od,Od] { tmps := #[ςd b len cap,.int .u64 d,undef,ρd (κd0 w),ρd (κd1 w),ρd (κd2 w),ρd (κd4 w),ρd (κd5 w),.int .i64 (j : Int),.int .u64 x,ςd b len cap,.int .i64 len,ςd (κd3 w) len len,ςd b len cap,.func (.func 87) #[] #[ρd (κd6 w)],.int .i64 (j : Int),.int .u64 x,undef,ςd (κd3 w) len len,.int .i64 (j : Int),.int .u64 c,.int .u64 x,.int .u64 d,.tuple #[.int .u64 q,.int .u64 r],undef,undef,undef,undef,undef,undef,undef],defers := [] } (W.drewN nd) := by
      intro nd
      rw [← hR]
      dsimp only [ρd,ςd,κd0,κd1,κd2,κd3,κd4,κd5,κd6]
      refine wpAnyIn_ready (rs := [6]) (by kernel_rfl) (by simp) ?_
      refine AllReadyIn.cons rfl (fun K hK => ?_) ?_
      · go_simp
        exact hK _ _ (Uu _ _ _ _ (H8 nd))
      exact AllReadyIn.nil
    have H10 : R 7 #[Id,Id,Id,Id,Id,Od,Od,Od,Od,Od,Od,Od] { tmps := #[ςd b len cap,.int .u64 d,undef,ρd (κd0 w),ρd (κd1 w),ρd (κd2 w),ρd (κd4 w),ρd (κd5 w),.int .i64 (j : Int),.int .u64 x,ςd b len cap,.int .i64 len,ςd (κd3 w) len len,ςd b len cap,.func (.func 87) #[] #[ρd (κd6 w)],.int .i64 (j : Int),.int .u64 x,undef,ςd (κd3 w) len len,.int .i64 (j : Int),.int .u64 c,.int .u64 x,.int .u64 d,undef,undef,undef,undef,undef,undef,undef,undef],defers := [] } (W.drew) := by
      rw [← hR]
      dsimp only [ρd,ςd,κd0,κd1,κd2,κd3,κd4,κd5,κd6]
      refine wpAnyIn_ready (rs := [5]) (by kernel_rfl) (by simp) ?_
      refine AllReadyIn.cons rfl (fun K hK => ?_) ?_
      · (go_simp; gi_wp2_with (refine ⟨trivial,?_⟩; gi_at_call 76; refine (CallsIn.inRound l' (callsIn_wide.2 (q64 _))).mono ?_; rintro e w' ⟨rfl,kk,rfl⟩))
        exact Uu _ _ _ _ (H9 (1 + kk))
      exact AllReadyIn.nil
    have H11 : R 8 #[Id,Id,Id,Id,Od,Od,Od,Od,Od,Od,Od,Od] { tmps := #[ςd b len cap,.int .u64 d,undef,ρd (κd0 w),ρd (κd1 w),ρd (κd2 w),ρd (κd4 w),ρd (κd5 w),.int .i64 (j : Int),.int .u64 x,ςd b len cap,.int .i64 len,ςd (κd3 w) len len,ςd b len cap,.func (.func 87) #[] #[ρd (κd6 w)],.int .i64 (j : Int),.int .u64 x,undef,ςd (κd3 w) len len,.int .i64 (j : Int),.int .u64 c,.int .u64 x,undef,undef,undef,undef,undef,undef,undef,undef,undef],defers := [] } (W.drew) := by
      rw [← hR]
      dsimp only [ρd,ςd,κd0,κd1,κd2,κd3,κd4,κd5,κd6]
      refine wpAnyIn_ready (rs := [4]) (by kernel_rfl) (by simp) ?_
      refine AllReadyIn.cons rfl (fun K hK => ?_) ?_
      · go_simp
        exact hK _ _ (Uu _ _ _ _ (H10))
      exact AllReadyIn.nil
    have H12 : R 8 #[Id,Id,Id,Od,Id,Od,Od,Od,Od,Od,Od,Od] { tmps := #[ςd b len cap,.int .u64 d,undef,ρd (κd0 w),ρd (κd1 w),ρd (κd2 w),ρd (κd4 w),ρd (κd5 w),.int .i64 (j : Int),.int .u64 x,ςd b len cap,.int .i64 len,ςd (κd3 w) len len,ςd b len cap,.func (.func 87) #[] #[ρd (κd6 w)],.int .i64 (j : Int),.int .u64 x,undef,ςd (κd3 w) len len,.int .i64 (j : Int),.int .u64 c,undef,.int .u64 d,undef,undef,undef,undef,undef,undef,undef,undef],defers := [] } (W.drew) := by
      rw [← hR]
      dsimp only [ρd,ςd,κd0,κd1,κd2,κd3,κd4,κd5,κd6]
      refine wpAnyIn_ready (rs := [3]) (by kernel_rfl) (by simp) ?_
      refine AllReadyIn.cons rfl (fun K hK => ?_) ?_
      · go_simp
        exact hK _ _ (Uu _ _ _ _ (H10))
      exact AllReadyIn.nil
    have H13 : R 9 #[Id,Id,Id,Od,Od,Od,Od,Od,Od,Od,Od,Od] { tmps := #[ςd b len cap,.int .u64 d,undef,ρd (κd0 w),ρd (κd1 w),ρd (κd2 w),ρd (κd4 w),ρd (κd5 w),.int .i64 (j : Int),.int .u64 x,ςd b len cap,.int .i64 len,ςd (κd3 w) len len,ςd b len cap,.func (.func 87) #[] #[ρd (κd6 w)],.int .i64 (j : Int),.int .u64 x,undef,ςd (κd3 w) len len,.int .i64 (j : Int),.int .u64 c,undef,undef,undef,undef,undef,undef,undef,undef,undef,undef],defers := [] } (W.drew) := by
      rw [← hR]
      dsimp only [ρd,ςd,κd0,κd1,κd2,κd3,κd4,κd5,κd6]
      refine wpAnyIn_ready (rs := [3,4]) (by kernel_rfl) (by simp) ?_
      refine AllReadyIn.cons rfl (fun K hK => ?_) ?_
      · go_simp
        exact hK _ _ (Uu _ _ _ _ (H11))
      refine AllReadyIn.cons rfl (fun K hK => ?_) ?_
      · go_simp
        exact hK _ _ (Uu _ _ _ _ (H12))
      exact AllReadyIn.nil
    have H14 : R 8 #[Id,Id,Od,Id,Id,Od,Od,Od,Od,Od,Od,Od] { tmps := #[ςd b len cap,.int .u64 d,undef,ρd (κd0 w),ρd (κd1 w),ρd (κd2 w),ρd (κd4 w),ρd (κd5 w),.int .i64 (j : Int),.int .u64 x,ςd b len cap,.int .i64 len,ςd (κd3 w) len len,ςd b len cap,.func (.func 87) #[] #[ρd (κd6 w)],.int .i64 (j : Int),.int .u64 x,undef,ςd (κd3 w) len len,.int .i64 (j : Int),undef,.int .u64 x,.int .u64 d,undef,undef,undef,undef,undef,undef,undef,undef],defers := [] } (W.drew) := by
      rw [← hR]
      dsimp only [ρd,ςd,κd0,κd1,κd2,κd3,κd4,κd5,κd6]
      refine wpAnyIn_ready (rs := [2]) (by kernel_rfl) (by simp) ?_
      refine AllReadyIn.cons rfl (fun K hK => ?_) ?_
      · go_simp
        exact hK _ _ (Uu _ _ _ _ (H10))
      exact AllReadyIn.nil
    have H15 : R 9 #[Id,Id,Od,Id,Od,Od,Od,Od,Od,Od,Od,Od] { tmps := #[ςd b len cap,.int .u64 d,undef,ρd (κd0 w),ρd (κd1 w),ρd (κd2 w),ρd (κd4 w),ρd (κd5 w),.int .i64 (j : Int),.int .u64 x,ςd b len cap,.int .i64 len,ςd (κd3 w) len len,ςd b len cap,.func (.func 87) #[] #[ρd (κd6 w)],.int .i64 (j : Int),.int .u64 x,undef,ςd (κd3 w) len len,.int .i64 (j : Int),undef,.int .u64 x,undef,undef,undef,undef,undef,undef,undef,undef,undef],defers := [] } (W.drew) := by
      rw [← hR]
      dsimp only [ρd,ςd,κd0,κd1,κd2,κd3,κd4,κd5,κd6]
      refine wpAnyIn_ready (rs := [2,4]) (by kernel_rfl) (by simp) ?_
      refine AllReadyIn.cons rfl (fun K hK => ?_) ?_
      · go_simp
        exact hK _ _ (Uu _ _ _ _ (H11))
      refine AllReadyIn.cons rfl (fun K hK => ?_) ?_
      · go_simp
        exact hK _ _ (Uu _ _ _ _ (H14))
      exact AllReadyIn.nil
    have H16 : R 9 #[Id,Id,Od,Od,Id,Od,Od,Od,Od,Od,Od,Od] { tmps := #[ςd b len cap,.int .u64 d,undef,ρd (κd0 w),ρd (κd1 w),ρd (κd2 w),ρd (κd4 w),ρd (κd5 w),.int .i64 (j : Int),.int .u64 x,ςd b len cap,.int .i64 len,ςd (κd3 w) len len,ςd b len cap,.func (.func 87) #[] #[ρd (κd6 w)],.int .i64 (j : Int),.int .u64 x,undef,ςd (κd3 w) len len,.int .i64 (j : Int),undef,undef,.int .u64 d,undef,undef,undef,undef,undef,undef,undef,undef],defers := [] } (W.drew) := by
      rw [← hR]
      dsimp only [ρd,ςd,κd0,κd1,κd2,κd3,κd4,κd5,κd6]
      refine wpAnyIn_ready (rs := [2,3]) (by kernel_rfl) (by simp) ?_
      refine AllReadyIn.cons rfl (fun K hK => ?_) ?_
      · go_simp
        exact hK _ _ (Uu _ _ _ _ (H12))
      refine AllReadyIn.cons rfl (fun K hK => ?_) ?_
      · go_simp
        exact hK _ _ (Uu _ _ _ _ (H14))
      exact AllReadyIn.nil
    have H17 : R 10 #[Id,Id,Od,Od,Od,Od,Od,Od,Od,Od,Od,Od] { tmps := #[ςd b len cap,.int .u64 d,undef,ρd (κd0 w),ρd (κd1 w),ρd (κd2 w),ρd (κd4 w),ρd (κd5 w),.int .i64 (j : Int),.int .u64 x,ςd b len cap,.int .i64 len,ςd (κd3 w) len len,ςd b len cap,.func (.func 87) #[] #[ρd (κd6 w)],.int .i64 (j : Int),.int .u64 x,undef,ςd (κd3 w) len len,.int .i64 (j : Int),undef,undef,undef,undef,undef,undef,undef,undef,undef,undef,undef],defers := [] } (W.drew) := by
      rw [← hR]
      dsimp only [ρd,ςd,κd0,κd1,κd2,κd3,κd4,κd5,κd6]
      refine wpAnyIn_ready (rs := [2,3,4]) (by kernel_rfl) (by simp) ?_
      refine AllReadyIn.cons rfl (fun K hK => ?_) ?_
      · go_simp
        exact hK _ _ (Uu _ _ _ _ (H13))
      refine AllReadyIn.cons rfl (fun K hK => ?_) ?_
      · go_simp
        exact hK _ _ (Uu _ _ _ _ (H15))
      refine AllReadyIn.cons rfl (fun K hK => ?_) ?_
      · go_simp
        exact hK _ _ (Uu _ _ _ _ (H16))
      exact AllReadyIn.nil
    have H18 : ∀ nd : Nat,R 4 #[Id,Od,Id,Id,Id,Id,Id,Id,Id,Od,Od,Od] { tmps := #[ςd b len cap,.int .u64 d,undef,ρd (κd0 w),ρd (κd1 w),ρd (κd2 w),ρd (κd4 w),ρd (κd5 w),.int .i64 (j : Int),.int .u64 x,ςd b len cap,.int .i64 len,ςd (κd3 w) len len,ςd b len cap,.func (.func 87) #[] #[ρd (κd6 w)],.int .i64 (j : Int),.int .u64 x,.tuple #[.int .u64 q,.int .u64 r],ςd (κd3 w) len len,undef,.int .u64 c,.int .u64 x,.int .u64 d,.tuple #[.int .u64 q,.int .u64 r],.int .u64 q,.int .u64 r,undef,undef,undef,undef,undef],defers := [] } (W.drewN nd) := by
      intro nd
      rw [← hR]
      dsimp only [ρd,ςd,κd0,κd1,κd2,κd3,κd4,κd5,κd6]
      refine wpAnyIn_ready (rs := [1]) (by kernel_rfl) (by simp) ?_
      refine AllReadyIn.cons rfl (fun K hK => ?_) ?_
      · go_simp
        exact hK _ _ (Uu _ _ _ _ (H3 nd))
      exact AllReadyIn.nil
    have H19 : ∀ nd : Nat,R 5 #[Id,Od,Id,Id,Id,Id,Id,Id,Od,Od,Od,Od] { tmps := #[ςd b len cap,.int .u64 d,undef,ρd (κd0 w),ρd (κd1 w),ρd (κd2 w),ρd (κd4 w),ρd (κd5 w),.int .i64 (j : Int),.int .u64 x,ςd b len cap,.int .i64 len,ςd (κd3 w) len len,ςd b len cap,.func (.func 87) #[] #[ρd (κd6 w)],.int .i64 (j : Int),.int .u64 x,.tuple #[.int .u64 q,.int .u64 r],ςd (κd3 w) len len,undef,.int .u64 c,.int .u64 x,.int .u64 d,.tuple #[.int .u64 q,.int .u64 r],.int .u64 q,undef,undef,undef,undef,undef,undef],defers := [] } (W.drewN nd) := by
      intro nd
      rw [← hR]
      dsimp only [ρd,ςd,κd0,κd1,κd2,κd3,κd4,κd5,κd6]
      refine wpAnyIn_ready (rs := [1,8]) (by kernel_rfl) (by simp) ?_
      refine AllReadyIn.cons rfl (fun K hK => ?_) ?_
      · go_simp
        exact hK _ _ (Uu _ _ _ _ (H6 nd))
      refine AllReadyIn.cons rfl (fun K hK => ?_) ?_
      · go_simp
        exact hK _ _ (Uu _ _ _ _ (H18 nd))
      exact AllReadyIn.nil
    have H20 : ∀ nd : Nat,R 5 #[Id,Od,Id,Id,Id,Id,Id,Od,Id,Od,Od,Od] { tmps := #[ςd b len cap,.int .u64 d,undef,ρd (κd0 w),ρd (κd1 w),ρd (κd2 w),ρd (κd4 w),ρd (κd5 w),.int .i64 (j : Int),.int .u64 x,ςd b len cap,.int .i64 len,ςd (κd3 w) len len,ςd b len cap,.func (.func 87) #[] #[ρd (κd6 w)],.int .i64 (j : Int),.int .u64 x,.tuple #[.int .u64 q,.int .u64 r],ςd (κd3 w) len len,undef,.int .u64 c,.int .u64 x,.int .u64 d,.tuple #[.int .u64 q,.int .u64 r],undef,.int .u64 r,undef,undef,undef,undef,undef],defers := [] } (W.drewN nd) := by
      intro nd
      rw [← hR]
      dsimp only [ρd,ςd,κd0,κd1,κd2,κd3,κd4,κd5,κd6]
      refine wpAnyIn_ready (rs := [1,7]) (by kernel_rfl) (by simp) ?_
      refine AllReadyIn.cons rfl (fun K hK => ?_) ?_
      · go_simp
        exact hK _ _ (Uu _ _ _ _ (H7 nd))
      refine AllReadyIn.cons rfl (fun K hK => ?_) ?_
      · go_simp
        exact hK _ _ (Uu _ _ _ _ (H18 nd))
      exact AllReadyIn.nil
    have H21 : ∀ nd : Nat,R 6 #[Id,Od,Id,Id,Id,Id,Id,Od,Od,Od,Od,Od] { tmps := #[ςd b len cap,.int .u64 d,undef,ρd (κd0 w),ρd (κd1 w),ρd (κd2 w),ρd (κd4 w),ρd (κd5 w),.int .i64 (j : Int),.int .u64 x,ςd b len cap,.int .i64 len,ςd (κd3 w) len len,ςd b len cap,.func (.func 87) #[] #[ρd (κd6 w)],.int .i64 (j : Int),.int .u64 x,.tuple #[.int .u64 q,.int .u64 r],ςd (κd3 w) len len,undef,.int .u64 c,.int .u64 x,.int .u64 d,.tuple #[.int .u64 q,.int .u64 r],undef,undef,undef,undef,undef,undef,undef],defers := [] } (W.drewN nd) := by
      intro nd
      rw [← hR]
      dsimp only [ρd,ςd,κd0,κd1,κd2,κd3,κd4,κd5,κd6]
      refine wpAnyIn_ready (rs := [1,7,8]) (by kernel_rfl) (by simp) ?_
      refine AllReadyIn.cons rfl (fun K hK => ?_) ?_
      · go_simp
        exact hK _ _ (Uu _ _ _ _ (H8 nd))
      refine AllReadyIn.cons rfl (fun K hK => ?_) ?_
      · go_simp
        exact hK _ _ (Uu _ _ _ _ (H19 nd))
      refine AllReadyIn.cons rfl (fun K hK => ?_) ?_
      · go_simp
        exact hK _ _ (Uu _ _ _ _ (H20 nd))
      exact AllReadyIn.nil
    have H22 : ∀ nd : Nat,R 7 #[Id,Od,Id,Id,Id,Id,Od,Od,Od,Od,Od,Od] { tmps := #[ςd b len cap,.int .u64 d,undef,ρd (κd0 w),ρd (κd1 w),ρd (κd2 w),ρd (κd4 w),ρd (κd5 w),.int .i64 (j : Int),.int .u64 x,ςd b len cap,.int .i64 len,ςd (κd3 w) len len,ςd b len cap,.func (.func 87) #[] #[ρd (κd6 w)],.int .i64 (j : Int),.int .u64 x,undef,ςd (κd3 w) len len,undef,.int .u64 c,.int .u64 x,.int .u64 d,.tuple #[.int .u64 q,.int .u64 r],undef,undef,undef,undef,undef,undef,undef],defers := [] } (W.drewN nd) := by
      intro nd
      rw [← hR]
      dsimp only [ρd,ςd,κd0,κd1,κd2,κd3,κd4,κd5,κd6]
      refine wpAnyIn_ready (rs := [1,6]) (by kernel_rfl) (by simp) ?_
      refine AllReadyIn.cons rfl (fun K hK => ?_) ?_
      · go_simp
        exact hK _ _ (Uu _ _ _ _ (H9 nd))
      refine AllReadyIn.cons rfl (fun K hK => ?_) ?_
      · go_simp
        exact hK _ _ (Uu _ _ _ _ (H21 nd))
      exact AllReadyIn.nil
    have H23 : R 8 #[Id,Od,Id,Id,Id,Od,Od,Od,Od,Od,Od,Od] { tmps := #[ςd b len cap,.int .u64 d,undef,ρd (κd0 w),ρd (κd1 w),ρd (κd2 w),ρd (κd4 w),ρd (κd5 w),.int .i64 (j : Int),.int .u64 x,ςd b len cap,.int .i64 len,ςd (κd3 w) len len,ςd b len cap,.func (.func 87) #[] #[ρd (κd6 w)],.int .i64 (j : Int),.int .u64 x,undef,ςd (κd3 w) len len,undef,.int .u64 c,.int .u64 x,.int .u64 d,undef,undef,undef,undef,undef,undef,undef,undef],defers := [] } (W.drew) := by
      rw [← hR]
      dsimp only [ρd,ςd,κd0,κd1,κd2,κd3,κd4,κd5,κd6]
      refine wpAnyIn_ready (rs := [1,5]) (by kernel_rfl) (by simp) ?_
      refine AllReadyIn.cons rfl (fun K hK => ?_) ?_
      · go_simp
        exact hK _ _ (Uu _ _ _ _ (H10))
      refine AllReadyIn.cons rfl (fun K hK => ?_) ?_
      · (go_simp; gi_wp2_with (refine ⟨trivial,?_⟩; gi_at_call 76; refine (CallsIn.inRound l' (callsIn_wide.2 (q64 _))).mono ?_; rintro e w' ⟨rfl,kk,rfl⟩))
        exact Uu _ _ _ _ (H22 (1 + kk))
      exact AllReadyIn.nil
    have H24 : R 9 #[Id,Od,Id,Id,Od,Od,Od,Od,Od,Od,Od,Od] { tmps := #[ςd b len cap,.int .u64 d,undef,ρd (κd0 w),ρd (κd1 w),ρd (κd2 w),ρd (κd4 w),ρd (κd5 w),.int .i64 (j : Int),.int .u64 x,ςd b len cap,.int .i64 len,ςd (κd3 w) len len,ςd b len cap,.func (.func 87) #[] #[ρd (κd6 w)],.int .i64 (j : Int),.int .u64 x,undef,ςd (κd3 w) len len,undef,.int .u64 c,.int .u64 x,undef,undef,undef,undef,undef,undef,undef,undef,undef],defers := [] } (W.drew) := by
      rw [← hR]
      dsimp only [ρd,ςd,κd0,κd1,κd2,κd3,κd4,κd5,κd6]
      refine wpAnyIn_ready (rs := [1,4]) (by kernel_rfl) (by simp) ?_
      refine AllReadyIn.cons rfl (fun K hK => ?_) ?_
      · go_simp
        exact hK _ _ (Uu _ _ _ _ (H11))
      refine AllReadyIn.cons rfl (fun K hK => ?_) ?_
      · go_simp
        exact hK _ _ (Uu _ _ _ _ (H23))
      exact AllReadyIn.nil
    have H25 : R 9 #[Id,Od,Id,Od,Id,Od,Od,Od,Od,Od,Od,Od] { tmps := #[ςd b len cap,.int .u64 d,undef,ρd (κd0 w),ρd (κd1 w),ρd (κd2 w),ρd (κd4 w),ρd (κd5 w),.int .i64 (j : Int),.int .u64 x,ςd b len cap,.int .i64 len,ςd (κd3 w) len len,ςd b len cap,.func (.func 87) #[] #[ρd (κd6 w)],.int .i64 (j : Int),.int .u64 x,undef,ςd (κd3 w) len len,undef,.int .u64 c,undef,.int .u64 d,undef,undef,undef,undef,undef,undef,undef,undef],defers := [] } (W.drew) := by
      rw [← hR]
      dsimp only [ρd,ςd,κd0,κd1,κd2,κd3,κd4,κd5,κd6]
      refine wpAnyIn_ready (rs := [1,3]) (by kernel_rfl) (by simp) ?_
      refine AllReadyIn.cons rfl (fun K hK => ?_) ?_
      · go_simp
        exact hK _ _ (Uu _ _ _ _ (H12))
      refine AllReadyIn.cons rfl (fun K hK => ?_) ?_
      · go_simp
        exact hK _ _ (Uu _ _ _ _ (H23))
      exact AllReadyIn.nil
    have H26 : R 10 #[Id,Od,Id,Od,Od,Od,Od,Od,Od,Od,Od,Od] { tmps := #[ςd b len cap,.int .u64 d,undef,ρd (κd0 w),ρd (κd1 w),ρd (κd2 w),ρd (κd4 w),ρd (κd5 w),.int .i64 (j : Int),.int .u64 x,ςd b len cap,.int .i64 len,ςd (κd3 w) len len,ςd b len cap,.func (.func 87) #[] #[ρd (κd6 w)],.int .i64 (j : Int),.int .u64 x,undef,ςd (κd3 w) len len,undef,.int .u64 c,undef,undef,undef,undef,undef,undef,undef,undef,undef,undef],defers := [] } (W.drew) := by
      rw [← hR]
      dsimp only [ρd,ςd,κd0,κd1,κd2,κd3,κd4,κd5,κd6]
      refine wpAnyIn_ready (rs := [1,3,4]) (by kernel_rfl) (by simp) ?_
      refine AllReadyIn.cons rfl (fun K hK => ?_) ?_
      · go_simp
        exact hK _ _ (Uu _ _ _ _ (H13))
      refine AllReadyIn.cons rfl (fun K hK => ?_) ?_
      · go_simp
        exact hK _ _ (Uu _ _ _ _ (H24))
      refine AllReadyIn.cons rfl (fun K hK => ?_) ?_
      · go_simp
        exact hK _ _ (Uu _ _ _ _ (H25))
      exact AllReadyIn.nil
    have H27 : R 9 #[Id,Od,Od,Id,Id,Od,Od,Od,Od,Od,Od,Od] { tmps := #[ςd b len cap,.int .u64 d,undef,ρd (κd0 w),ρd (κd1 w),ρd (κd2 w),ρd (κd4 w),ρd (κd5 w),.int .i64 (j : Int),.int .u64 x,ςd b len cap,.int .i64 len,ςd (κd3 w) len len,ςd b len cap,.func (.func 87) #[] #[ρd (κd6 w)],.int .i64 (j : Int),.int .u64 x,undef,ςd (κd3 w) len len,undef,undef,.int .u64 x,.int .u64 d,undef,undef,undef,undef,undef,undef,undef,undef],defers := [] } (W.drew) := by
      rw [← hR]
      dsimp only [ρd,ςd,κd0,κd1,κd2,κd3,κd4,κd5,κd6]
      refine wpAnyIn_ready (rs := [1,2]) (by kernel_rfl) (by simp) ?_
      refine AllReadyIn.cons rfl (fun K hK => ?_) ?_
      · go_simp
        exact hK _ _ (Uu _ _ _ _ (H14))
      refine AllReadyIn.cons rfl (fun K hK => ?_) ?_
      · go_simp
        exact hK _ _ (Uu _ _ _ _ (H23))
      exact AllReadyIn.nil
    have H28 : R 10 #[Id,Od,Od,Id,Od,Od,Od,Od,Od,Od,Od,Od] { tmps := #[ςd b len cap,.int .u64 d,undef,ρd (κd0 w),ρd (κd1 w),ρd (κd2 w),ρd (κd4 w),ρd (κd5 w),.int .i64 (j : Int),.int .u64 x,ςd b len cap,.int .i64 len,ςd (κd3 w) len len,ςd b len cap,.func (.func 87) #[] #[ρd (κd6 w)],.int .i64 (j : Int),.int .u64 x,undef,ςd (κd3 w) len len,undef,undef,.int .u64 x,undef,undef,undef,undef,undef,undef,undef,undef,undef],defers := [] } (W.drew) := by
      rw [← hR]
      dsimp only [ρd,ςd,κd0,κd1,κd2,κd3,κd4,κd5,κd6]
      refine wpAnyIn_ready (rs := [1,2,4]) (by kernel_rfl) (by simp) ?_
      refine AllReadyIn.cons rfl (fun K hK => ?_) ?_
      · go_simp
        exact hK _ _ (Uu _ _ _ _ (H15))
      refine AllReadyIn.cons rfl (fun K hK => ?_) ?_
      · go_simp
        exact hK _ _ (Uu _ _ _ _ (H24))
      refine AllReadyIn.cons rfl (fun K hK => ?_) ?_
      · go_simp
        exact hK _ _ (Uu _ _ _ _ (H27))
      exact AllReadyIn.nil
    have H29 : R 10 #[Id,Od,Od,Od,Id,Od,Od,Od,Od,Od,Od,Od] { tmps := #[ςd b len cap,.int .u64 d,undef,ρd (κd0 w),ρd (κd1 w),ρd (κd2 w),ρd (κd4 w),ρd (κd5 w),.int .i64 (j : Int),.int .u64 x,ςd b len cap,.int .i64 len,ςd (κd3 w) len len,ςd b len cap,.func (.func 87) #[] #[ρd (κd6 w)],.int .i64 (j : Int),.int .u64 x,undef,ςd (κd3 w) len len,undef,undef,undef,.int .u64 d,undef,undef,undef,undef,undef,undef,undef,undef],defers := [] } (W.drew) := by
      rw [← hR]
      dsimp only [ρd,ςd,κd0,κd1,κd2,κd3,κd4,κd5,κd6]
      refine wpAnyIn_ready (rs := [1,2,3]) (by kernel_rfl) (by simp) ?_
      refine AllReadyIn.cons rfl (fun K hK => ?_) ?_
      · go_simp
        exact hK _ _ (Uu _ _ _ _ (H16))
      refine AllReadyIn.cons rfl (fun K hK => ?_) ?_
      · go_simp
        exact hK _ _ (Uu _ _ _ _ (H25))
      refine AllReadyIn.cons rfl (fun K hK => ?_) ?_
      · go_simp
        exact hK _ _ (Uu _ _ _ _ (H27))
      exact AllReadyIn.nil
    have H30 : R 11 #[Id,Od,Od,Od,Od,Od,Od,Od,Od,Od,Od,Od] { tmps := #[ςd b len cap,.int .u64 d,undef,ρd (κd0 w),ρd (κd1 w),ρd (κd2 w),ρd (κd4 w),ρd (κd5 w),.int .i64 (j : Int),.int .u64 x,ςd b len cap,.int .i64 len,ςd (κd3 w) len len,ςd b len cap,.func (.func 87) #[] #[ρd (κd6 w)],.int .i64 (j : Int),.int .u64 x,undef,ςd (κd3 w) len len,undef,undef,undef,undef,undef,undef,undef,undef,undef,undef,undef,undef],defers := [] } (W.drew) := by
      rw [← hR]
      dsimp only [ρd,ςd,κd0,κd1,κd2,κd3,κd4,κd5,κd6]
      refine wpAnyIn_ready (rs := [1,2,3,4]) (by kernel_rfl) (by simp) ?_
      refine AllReadyIn.cons rfl (fun K hK => ?_) ?_
      · go_simp
        exact hK _ _ (Uu _ _ _ _ (H17))
      refine AllReadyIn.cons rfl (fun K hK => ?_) ?_
      · go_simp
        exact hK _ _ (Uu _ _ _ _ (H26))
      refine AllReadyIn.cons rfl (fun K hK => ?_) ?_
      · go_simp
        exact hK _ _ (Uu _ _ _ _ (H28))
      refine AllReadyIn.cons rfl (fun K hK => ?_) ?_
      · go_simp
        exact hK _ _ (Uu _ _ _ _ (H29))
      exact AllReadyIn.nil
    have H31 : ∀ nd : Nat,R 4 #[Od,Id,Id,Id,Id,Id,Id,Id,Id,Od,Od,Od] { tmps := #[ςd b len cap,.int .u64 d,undef,ρd (κd0 w),ρd (κd1 w),ρd (κd2 w),ρd (κd4 w),ρd (κd5 w),.int .i64 (j : Int),.int .u64 x,ςd b len cap,.int .i64 len,ςd (κd3 w) len len,ςd b len cap,.func (.func 87) #[] #[ρd (κd6 w)],.int .i64 (j : Int),.int .u64 x,.tuple #[.int .u64 q,.int .u64 r],undef,.int .i64 (j : Int),.int .u64 c,.int .u64 x,.int .u64 d,.tuple #[.int .u64 q,.int .u64 r],.int .u64 q,.int .u64 r,undef,undef,undef,undef,undef],defers := [] } (W.drewN nd) := by
      intro nd
      rw [← hR]
      dsimp only [ρd,ςd,κd0,κd1,κd2,κd3,κd4,κd5,κd6]
      refine wpAnyIn_ready (rs := [0]) (by kernel_rfl) (by simp) ?_
      refine AllReadyIn.cons rfl (fun K hK => ?_) ?_
      · go_simp
        exact hK _ _ (Uu _ _ _ _ (H3 nd))
      exact AllReadyIn.nil
    have H32 : ∀ nd : Nat,R 5 #[Od,Id,Id,Id,Id,Id,Id,Id,Od,Od,Od,Od] { tmps := #[ςd b len cap,.int .u64 d,undef,ρd (κd0 w),ρd (κd1 w),ρd (κd2 w),ρd (κd4 w),ρd (κd5 w),.int .i64 (j : Int),.int .u64 x,ςd b len cap,.int .i64 len,ςd (κd3 w) len len,ςd b len cap,.func (.func 87) #[] #[ρd (κd6 w)],.int .i64 (j : Int),.int .u64 x,.tuple #[.int .u64 q,.int .u64 r],undef,.int .i64 (j : Int),.int .u64 c,.int .u64 x,.int .u64 d,.tuple #[.int .u64 q,.int .u64 r],.int .u64 q,undef,undef,undef,undef,undef,undef],defers := [] } (W.drewN nd) := by
      intro nd
      rw [← hR]
      dsimp only [ρd,ςd,κd0,κd1,κd2,κd3,κd4,κd5,κd6]
      refine wpAnyIn_ready (rs := [0,8]) (by kernel_rfl) (by simp) ?_
      refine AllReadyIn.cons rfl (fun K hK => ?_) ?_
      · go_simp
        exact hK _ _ (Uu _ _ _ _ (H6 nd))
      refine AllReadyIn.cons rfl (fun K hK => ?_) ?_
      · go_simp
        exact hK _ _ (Uu _ _ _ _ (H31 nd))
      exact AllReadyIn.nil
    have H33 : ∀ nd : Nat,R 5 #[Od,Id,Id,Id,Id,Id,Id,Od,Id,Od,Od,Od] { tmps := #[ςd b len cap,.int .u64 d,undef,ρd (κd0 w),ρd (κd1 w),ρd (κd2 w),ρd (κd4 w),ρd (κd5 w),.int .i64 (j : Int),.int .u64 x,ςd b len cap,.int .i64 len,ςd (κd3 w) len len,ςd b len cap,.func (.func 87) #[] #[ρd (κd6 w)],.int .i64 (j : Int),.int .u64 x,.tuple #[.int .u64 q,.int .u64 r],undef,.int .i64 (j : Int),.int .u64 c,.int .u64 x,.int .u64 d,.tuple #[.int .u64 q,.int .u64 r],undef,.int .u64 r,undef,undef,undef,undef,undef],defers := [] } (W.drewN nd) := by
      intro nd
      rw [← hR]
      dsimp only [ρd,ςd,κd0,κd1,κd2,κd3,κd4,κd5,κd6]
      refine wpAnyIn_ready (rs := [0,7]) (by kernel_rfl) (by simp) ?_
      refine AllReadyIn.cons rfl (fun K hK => ?_) ?_
      · go_simp
        exact hK _ _ (Uu _ _ _ _ (H7 nd))
      refine AllReadyIn.cons rfl (fun K hK => ?_) ?_
      · go_simp
        exact hK _ _ (Uu _ _ _ _ (H31 nd))
      exact AllReadyIn.nil
    have H34 : ∀ nd : Nat,R 6 #[Od,Id,Id,Id,Id,Id,Id,Od,Od,Od,Od,Od] { tmps := #[ςd b len cap,.int .u64 d,undef,ρd (κd0 w),ρd (κd1 w),ρd (κd2 w),ρd (κd4 w),ρd (κd5 w),.int .i64 (j : Int),.int .u64 x,ςd b len cap,.int .i64 len,ςd (κd3 w) len len,ςd b len cap,.func (.func 87) #[] #[ρd (κd6 w)],.int .i64 (j : Int),.int .u64 x,.tuple #[.int .u64 q,.int .u64 r],undef,.int .i64 (j : Int),.int .u64 c,.int .u64 x,.int .u64 d,.tuple #[.int .u64 q,.int .u64 r],undef,undef,undef,undef,undef,undef,undef],defers := [] } (W.drewN nd) := by
      intro nd
      rw [← hR]
      dsimp only [ρd,ςd,κd0,κd1,κd2,κd3,κd4,κd5,κd6]
      refine wpAnyIn_ready (rs := [0,7,8]) (by kernel_rfl) (by simp) ?_
      refine AllReadyIn.cons rfl (fun K hK => ?_) ?_
      · go_simp
        exact hK _ _ (Uu _ _ _ _ (H8 nd))
      refine AllReadyIn.cons rfl (fun K hK => ?_) ?_
      · go_simp
        exact hK _ _ (Uu _ _ _ _ (H32 nd))
      refine AllReadyIn.cons rfl (fun K hK => ?_) ?_
      · go_simp
        exact hK _ _ (Uu _ _ _ _ (H33 nd))
      exact AllReadyIn.nil
    have H35 : ∀ nd : Nat,R 7 #[Od,Id,Id,Id,Id,Id,Od,Od,Od,Od,Od,Od] { tmps := #[ςd b len cap,.int .u64 d,undef,ρd (κd0 w),ρd (κd1 w),ρd (κd2 w),ρd (κd4 w),ρd (κd5 w),.int .i64 (j : Int),.int .u64 x,ςd b len cap,.int .i64 len,ςd (κd3 w) len len,ςd b len cap,.func (.func 87) #[] #[ρd (κd6 w)],.int .i64 (j : Int),.int .u64 x,undef,undef,.int .i64 (j : Int),.int .u64 c,.int .u64 x,.int .u64 d,.tuple #[.int .u64 q,.int .u64 r],undef,undef,undef,undef,undef,undef,undef],defers := [] } (W.drewN nd) := by
      intro nd
      rw [← hR]
      dsimp only [ρd,ςd,κd0,κd1,κd2,κd3,κd4,κd5,κd6]
      refine wpAnyIn_ready (rs := [0,6]) (by kernel_rfl) (by simp) ?_
      refine AllReadyIn.cons rfl (fun K hK => ?_) ?_
      · go_simp
        exact hK _ _ (Uu _ _ _ _ (H9 nd))
      refine AllReadyIn.cons rfl (fun K hK => ?_) ?_
      · go_simp
        exact hK _ _ (Uu _ _ _ _ (H34 nd))
      exact AllReadyIn.nil
    have H36 : R 8 #[Od,Id,Id,Id,Id,Od,Od,Od,Od,Od,Od,Od] { tmps := #[ςd b len cap,.int .u64 d,undef,ρd (κd0 w),ρd (κd1 w),ρd (κd2 w),ρd (κd4 w),ρd (κd5 w),.int .i64 (j : Int),.int .u64 x,ςd b len cap,.int .i64 len,ςd (κd3 w) len len,ςd b len cap,.func (.func 87) #[] #[ρd (κd6 w)],.int .i64 (j : Int),.int .u64 x,undef,undef,.int .i64 (j : Int),.int .u64 c,.int .u64 x,.int .u64 d,undef,undef,undef,undef,undef,undef,undef,undef],defers := [] } (W.drew) := by
      rw [← hR]
      dsimp only [ρd,ςd,κd0,κd1,κd2,κd3,κd4,κd5,κd6]
      refine wpAnyIn_ready (rs := [0,5]) (by kernel_rfl) (by simp) ?_
      refine AllReadyIn.cons rfl (fun K hK => ?_) ?_
      · go_simp
        exact hK _ _ (Uu _ _ _ _ (H10))
      refine AllReadyIn.cons rfl (fun K hK => ?_) ?_
      · (go_simp; gi_wp2_with (refine ⟨trivial,?_⟩; gi_at_call 76; refine (CallsIn.inRound l' (callsIn_wide.2 (q64 _))).mono ?_; rintro e w' ⟨rfl,kk,rfl⟩))
        exact Uu _ _ _ _ (H35 (1 + kk))
      exact AllReadyIn.nil
    have H37 : R 9 #[Od,Id,Id,Id,Od,Od,Od,Od,Od,Od,Od,Od] { tmps := #[ςd b len cap,.int .u64 d,undef,ρd (κd0 w),ρd (κd1 w),ρd (κd2 w),ρd (κd4 w),ρd (κd5 w),.int .i64 (j : Int),.int .u64 x,ςd b len cap,.int .i64 len,ςd (κd3 w) len len,ςd b len cap,.func (.func 87) #[] #[ρd (κd6 w)],.int .i64 (j : Int),.int .u64 x,undef,undef,.int .i64 (j : Int),.int .u64 c,.int .u64 x,undef,undef,undef,undef,undef,undef,undef,undef,undef],defers := [] } (W.drew) := by
      rw [← hR]
      dsimp only [ρd,ςd,κd0,κd1,κd2,κd3,κd4,κd5,κd6]
      refine wpAnyIn_ready (rs := [0,4]) (by kernel_rfl) (by simp) ?_
      refine AllReadyIn.cons rfl (fun K hK => ?_) ?_
      · go_simp
        exact hK _ _ (Uu _ _ _ _ (H11))
      refine AllReadyIn.cons rfl (fun K hK => ?_) ?_
      · go_simp
        exact hK _ _ (Uu _ _ _ _ (H36))
      exact AllReadyIn.nil
    have H38 : R 9 #[Od,Id,Id,Od,Id,Od,Od,Od,Od,Od,Od,Od] { tmps := #[ςd b len cap,.int .u64 d,undef,ρd (κd0 w),ρd (κd1 w),ρd (κd2 w),ρd (κd4 w),ρd (κd5 w),.int .i64 (j : Int),.int .u64 x,ςd b len cap,.int .i64 len,ςd (κd3 w) len len,ςd b len cap,.func (.func 87) #[] #[ρd (κd6 w)],.int .i64 (j : Int),.int .u64 x,undef,undef,.int .i64 (j : Int),.int .u64 c,undef,.int .u64 d,undef,undef,undef,undef,undef,undef,undef,undef],defers := [] } (W.drew) := by
      rw [← hR]
      dsimp only [ρd,ςd,κd0,κd1,κd2,κd3,κd4,κd5,κd6]
      refine wpAnyIn_ready (rs := [0,3]) (by kernel_rfl) (by simp) ?_
      refine AllReadyIn.cons rfl (fun K hK => ?_) ?_
      · go_simp
        exact hK _ _ (Uu _ _ _ _ (H12))
      refine AllReadyIn.cons rfl (fun K hK => ?_) ?_
      · go_simp
        exact hK _ _ (Uu _ _ _ _ (H36))
      exact AllReadyIn.nil
    have H39 : R 10 #[Od,Id,Id,Od,Od,Od,Od,Od,Od,Od,Od,Od] { tmps := #[ςd b len cap,.int .u64 d,undef,ρd (κd0 w),ρd (κd1 w),ρd (κd2 w),ρd (κd4 w),ρd (κd5 w),.int .i64 (j : Int),.int .u64 x,ςd b len cap,.int .i64 len,ςd (κd3 w) len len,ςd b len cap,.func (.func 87) #[] #[ρd (κd6 w)],.int .i64 (j : Int),.int .u64 x,undef,undef,.int .i64 (j : Int),.int .u64 c,undef,undef,undef,undef,undef,undef,undef,undef,undef,undef],defers := [] } (W.drew) := by
      rw [← hR]
      dsimp only [ρd,ςd,κd0,κd1,κd2,κd3,κd4,κd5,κd6]
      refine wpAnyIn_ready (rs := [0,3,4]) (by kernel_rfl) (by simp) ?_
      refine AllReadyIn.cons rfl (fun K hK => ?_) ?_
      · go_simp
        exact hK _ _ (Uu _ _ _ _ (H13))
      refine AllReadyIn.cons rfl (fun K hK => ?_) ?_
      · go_simp
        exact hK _ _ (Uu _ _ _ _ (H37))
      refine AllReadyIn.cons rfl (fun K hK => ?_) ?_
      · go_simp
        exact hK _ _ (Uu _ _ _ _ (H38))
      exact AllReadyIn.nil
    have H40 : R 9 #[Od,Id,Od,Id,Id,Od,Od,Od,Od,Od,Od,Od] { tmps := #[ςd b len cap,.int .u64 d,undef,ρd (κd0 w),ρd (κd1 w),ρd (κd2 w),ρd (κd4 w),ρd (κd5 w),.int .i64 (j : Int),.int .u64 x,ςd b len cap,.int .i64 len,ςd (κd3 w) len len,ςd b len cap,.func (.func 87) #[] #[ρd (κd6 w)],.int .i64 (j : Int),.int .u64 x,undef,undef,.int .i64 (j : Int),undef,.int .u64 x,.int .u64 d,undef,undef,undef,undef,undef,undef,undef,undef],defers := [] } (W.drew) := by
      rw [← hR]
      dsimp only [ρd,ςd,κd0,κd1,κd2,κd3,κd4,κd5,κd6]
      refine wpAnyIn_ready (rs := [0,2]) (by kernel_rfl) (by simp) ?_
      refine AllReadyIn.cons rfl (fun K hK => ?_) ?_
      · go_simp
        exact hK _ _ (Uu _ _ _ _ (H14))
      refine AllReadyIn.cons rfl (fun K hK => ?_) ?_
      · go_simp
        exact hK _ _ (Uu _ _ _ _ (H36))
      exact AllReadyIn.nil
    have H41 : R 10 #[Od,Id,Od,Id,Od,Od,Od,Od,Od,Od,Od,Od] { tmps := #[ςd b len cap,.int .u64 d,undef,ρd (κd0 w),ρd (κd1 w),ρd (κd2 w),ρd (κd4 w),ρd (κd5 w),.int .i64 (j : Int),.int .u64 x,ςd b len cap,.int .i64 len,ςd (κd3 w) len len,ςd b len cap,.func (.func 87) #[] #[ρd (κd6 w)],.int .i64 (j : Int),.int .u64 x,undef,undef,.int .i64 (j : Int),undef,.int .u64 x,undef,undef,undef,undef,undef,undef,undef,undef,undef],defers := [] } (W.drew) := by
      rw [← hR]
      dsimp only [ρd,ςd,κd0,κd1,κd2,κd3,κd4,κd5,κd6]
      refine wpAnyIn_ready (rs := [0,2,4]) (by kernel_rfl) (by simp) ?_
      refine AllReadyIn.cons rfl (fun K hK => ?_) ?_
      · go_simp
        exact hK _ _ (Uu _ _ _ _ (H15))
      refine AllReadyIn.cons rfl (fun K hK => ?_) ?_
      · go_simp
        exact hK _ _ (Uu _ _ _ _ (H37))
      refine AllReadyIn.cons rfl (fun K hK => ?_) ?_
      · go_simp
        exact hK _ _ (Uu _ _ _ _ (H40))
      exact AllReadyIn.nil
    have H42 : R 10 #[Od,Id,Od,Od,Id,Od,Od,Od,Od,Od,Od,Od] { tmps := #[ςd b len cap,.int .u64 d,undef,ρd (κd0 w),ρd (κd1 w),ρd (κd2 w),ρd (κd4 w),ρd (κd5 w),.int .i64 (j : Int),.int .u64 x,ςd b len cap,.int .i64 len,ςd (κd3 w) len len,ςd b len cap,.func (.func 87) #[] #[ρd (κd6 w)],.int .i64 (j : Int),.int .u64 x,undef,undef,.int .i64 (j : Int),undef,undef,.int .u64 d,undef,undef,undef,undef,undef,undef,undef,undef],defers := [] } (W.drew) := by
      rw [← hR]
      dsimp only [ρd,ςd,κd0,κd1,κd2,κd3,κd4,κd5,κd6]
      refine wpAnyIn_ready (rs := [0,2,3]) (by kernel_rfl) (by simp) ?_
      refine AllReadyIn.cons rfl (fun K hK => ?_) ?_
      · go_simp
        exact hK _ _ (Uu _ _ _ _ (H16))
      refine AllReadyIn.cons rfl (fun K hK => ?_) ?_
      · go_simp
        exact hK _ _ (Uu _ _ _ _ (H38))
      refine AllReadyIn.cons rfl (fun K hK => ?_) ?_
      · go_simp
        exact hK _ _ (Uu _ _ _ _ (H40))
      exact AllReadyIn.nil
    have H43 : R 11 #[Od,Id,Od,Od,Od,Od,Od,Od,Od,Od,Od,Od] { tmps := #[ςd b len cap,.int .u64 d,undef,ρd (κd0 w),ρd (κd1 w),ρd (κd2 w),ρd (κd4 w),ρd (κd5 w),.int .i64 (j : Int),.int .u64 x,ςd b len cap,.int .i64 len,ςd (κd3 w) len len,ςd b len cap,.func (.func 87) #[] #[ρd (κd6 w)],.int .i64 (j : Int),.int .u64 x,undef,undef,.int .i64 (j : Int),undef,undef,undef,undef,undef,undef,undef,undef,undef,undef,undef],defers := [] } (W.drew) := by
      rw [← hR]
      dsimp only [ρd,ςd,κd0,κd1,κd2,κd3,κd4,κd5,κd6]
      refine wpAnyIn_ready (rs := [0,2,3,4]) (by kernel_rfl) (by simp) ?_
      refine AllReadyIn.cons rfl (fun K hK => ?_) ?_
      · go_simp
        exact hK _ _ (Uu _ _ _ _ (H17))
      refine AllReadyIn.cons rfl (fun K hK => ?_) ?_
      · go_simp
        exact hK _ _ (Uu _ _ _ _ (H39))
      refine AllReadyIn.cons rfl (fun K hK => ?_) ?_
      · go_simp
        exact hK _ _ (Uu _ _ _ _ (H41))
      refine AllReadyIn.cons rfl (fun K hK => ?_) ?_
      · go_simp
        exact hK _ _ (Uu _ _ _ _ (H42))
      exact AllReadyIn.nil
    have H44 : ∀ nd : Nat,R 5 #[Od,Od,Id,Id,Id,Id,Id,Id,Id,Od,Od,Od] { tmps := #[ςd b len cap,.int .u64 d,undef,ρd (κd0 w),ρd (κd1 w),ρd (κd2 w),ρd (κd4 w),ρd (κd5 w),.int .i64 (j : Int),.int .u64 x,ςd b len cap,.int .i64 len,ςd (κd3 w) len len,ςd b len cap,.func (.func 87) #[] #[ρd (κd6 w)],.int .i64 (j : Int),.int .u64 x,.tuple #[.int .u64 q,.int .u64 r],undef,undef,.int .u64 c,.int .u64 x,.int .u64 d,.tuple #[.int .u64 q,.int .u64 r],.int .u64 q,.int .u64 r,undef,undef,undef,undef,undef],defers := [] } (W.drewN nd) := by
      intro nd
      rw [← hR]
      dsimp only [ρd,ςd,κd0,κd1,κd2,κd3,κd4,κd5,κd6]
      refine wpAnyIn_ready (rs := [0,1]) (by kernel_rfl) (by simp) ?_
      refine AllReadyIn.cons rfl (fun K hK => ?_) ?_
      · go_simp
        exact hK _ _ (Uu _ _ _ _ (H18 nd))
      refine AllReadyIn.cons rfl (fun K hK => ?_) ?_
      · go_simp
        exact hK _ _ (Uu _ _ _ _ (H31 nd))
      exact AllReadyIn.nil
    have H45 : ∀ nd : Nat,R 6 #[Od,Od,Id,Id,Id,Id,Id,Id,Od,Od,Od,Od] { tmps := #[ςd b len cap,.int .u64 d,undef,ρd (κd0 w),ρd (κd1 w),ρd (κd2 w),ρd (κd4 w),ρd (κd5 w),.int .i64 (j : Int),.int .u64 x,ςd b len cap,.int .i64 len,ςd (κd3 w) len len,ςd b len cap,.func (.func 87) #[] #[ρd (κd6 w)],.int .i64 (j : Int),.int .u64 x,.tuple #[.int .u64 q,.int .u64 r],undef,undef,.int .u64 c,.int .u64 x,.int .u64 d,.tuple #[.int .u64 q,.int .u64 r],.int .u64 q,undef,undef,undef,undef,undef,undef],defers := [] } (W.drewN nd) := by
      intro nd
      rw [← hR]
      dsimp only [ρd,ςd,κd0,κd1,κd2,κd3,κd4,κd5,κd6]
      refine wpAnyIn_ready (rs := [0,1,8]) (by kernel_rfl) (by simp) ?_
      refine AllReadyIn.cons rfl (fun K hK => ?_) ?_
      · go_simp
        exact hK _ _ (Uu _ _ _ _ (H19 nd))
      refine AllReadyIn.cons rfl (fun K hK => ?_) ?_
      · go_simp
        exact hK _ _ (Uu _ _ _ _ (H32 nd))
      refine AllReadyIn.cons rfl (fun K hK => ?_) ?_
      · go_simp
        exact hK _ _ (Uu _ _ _ _ (H44 nd))
      exact AllReadyIn.nil
    have H46 : ∀ nd : Nat,R 6 #[Od,Od,Id,Id,Id,Id,Id,Od,Id,Od,Od,Od] { tmps := #[ςd b len cap,.int .u64 d,undef,ρd (κd0 w),ρd (κd1 w),ρd (κd2 w),ρd (κd4 w),ρd (κd5 w),.int .i64 (j : Int),.int .u64 x,ςd b len cap,.int .i64 len,ςd (κd3 w) len len,ςd b len cap,.func (.func 87) #[] #[ρd (κd6 w)],.int .i64 (j : Int),.int .u64 x,.tuple #[.int .u64 q,.int .u64 r],undef,undef,.int .u64 c,.int .u64 x,.int .u64 d,.tuple #[.int .u64 q,.int .u64 r],undef,.int .u64 r,undef,undef,undef,undef,undef],defers := [] } (W.drewN nd) := by
      intro nd
      rw [← hR]
      dsimp only [ρd,ςd,κd0,κd1,κd2,κd3,κd4,κd5,κd6]
      refine wpAnyIn_ready (rs := [0,1,7]) (by kernel_rfl) (by simp) ?_
      refine AllReadyIn.cons rfl (fun K hK => ?_) ?_
      · go_simp
        exact hK _ _ (Uu _ _ _ _ (H20 nd))
      refine AllReadyIn.cons rfl (fun K hK => ?_) ?_
      · go_simp
        exact hK _ _ (Uu _ _ _ _ (H33 nd))
      refine AllReadyIn.cons rfl (fun K hK => ?_) ?_
      · go_simp
        exact hK _ _ (Uu _ _ _ _ (H44 nd))
      exact AllReadyIn.nil
    have H47 : ∀ nd : Nat,R 7 #[Od,Od,Id,Id,Id,Id,Id,Od,Od,Od,Od,Od] { tmps := #[ςd b len cap,.int .u64 d,undef,ρd (κd0 w),ρd (κd1 w),ρd (κd2 w),ρd (κd4 w),ρd (κd5 w),.int .i64 (j : Int),.int .u64 x,ςd b len cap,.int .i64 len,ςd (κd3 w) len len,ςd b len cap,.func (.func 87) #[] #[ρd (κd6 w)],.int .i64 (j : Int),.int .u64 x,.tuple #[.int .u64 q,.int .u64 r],undef,undef,.int .u64 c,.int .u64 x,.int .u64 d,.tuple #[.int .u64 q,.int .u64 r],undef,undef,undef,undef,undef,undef,undef],defers := [] } (W.drewN nd) := by
      intro nd
      rw [← hR]
      dsimp only [ρd,ςd,κd0,κd1,κd2,κd3,κd4,κd5,κd6]
      refine wpAnyIn_ready (rs := [0,1,7,8]) (by kernel_rfl) (by simp) ?_
      refine AllReadyIn.cons rfl (fun K hK => ?_) ?_
      · go_simp
        exact hK _ _ (Uu _ _ _ _ (H21 nd))
      refine AllReadyIn.cons rfl (fun K hK => ?_) ?_
      · go_simp
        exact hK _ _ (Uu _ _ _ _ (H34 nd))
      refine AllReadyIn.cons rfl (fun K hK => ?_) ?_
      · go_simp
        exact hK _ _ (Uu _ _ _ _ (H45 nd))
      refine AllReadyIn.cons rfl (fun K hK => ?_) ?_
      · go_simp
        exact hK _ _ (Uu _ _ _ _ (H46 nd))
      exact AllReadyIn.nil
    have H48 : ∀ nd : Nat,R 8 #[Od,Od,Id,Id,Id,Id,Od,Od,Od,Od,Od,Od] { tmps := #[ςd b len cap,.int .u64 d,undef,ρd (κd0 w),ρd (κd1 w),ρd (κd2 w),ρd (κd4 w),ρd (κd5 w),.int .i64 (j : Int),.int .u64 x,ςd b len cap,.int .i64 len,ςd (κd3 w) len len,ςd b len cap,.func (.func 87) #[] #[ρd (κd6 w)],.int .i64 (j : Int),.int .u64 x,undef,undef,undef,.int .u64 c,.int .u64 x,.int .u64 d,.tuple #[.int .u64 q,.int .u64 r],undef,undef,undef,undef,undef,undef,undef],defers := [] } (W.drewN nd) := by
      intro nd
      rw [← hR]
      dsimp only [ρd,ςd,κd0,κd1,κd2,κd3,κd4,κd5,κd6]
      refine wpAnyIn_ready (rs := [0,1,6]) (by kernel_rfl) (by simp) ?_
      refine AllReadyIn.cons rfl (fun K hK => ?_) ?_
      · go_simp
        exact hK _ _ (Uu _ _ _ _ (H22 nd))
      refine AllReadyIn.cons rfl (fun K hK => ?_) ?_
      · go_simp
        exact hK _ _ (Uu _ _ _ _ (H35 nd))
      refine AllReadyIn.cons rfl (fun K hK => ?_) ?_
      · go_simp
        exact hK _ _ (Uu _ _ _ _ (H47 nd))
      exact AllReadyIn.nil
    have H49 : R 9 #[Od,Od,Id,Id,Id,Od,Od,Od,Od,Od,Od,Od] { tmps := #[ςd b len cap,.int .u64 d,undef,ρd (κd0 w),ρd (κd1 w),ρd (κd2 w),ρd (κd4 w),ρd (κd5 w),.int .i64 (j : Int),.int .u64 x,ςd b len cap,.int .i64 len,ςd (κd3 w) len len,ςd b len cap,.func (.func 87) #[] #[ρd (κd6 w)],.int .i64 (j : Int),.int .u64 x,undef,undef,undef,.int .u64 c,.int .u64 x,.int .u64 d,undef,undef,undef,undef,undef,undef,undef,undef],defers := [] } (W.drew) := by
      rw [← hR]
      dsimp only [ρd,ςd,κd0,κd1,κd2,κd3,κd4,κd5,κd6]
      refine wpAnyIn_ready (rs := [0,1,5]) (by kernel_rfl) (by simp) ?_
      refine AllReadyIn.cons rfl (fun K hK => ?_) ?_
      · go_simp
        exact hK _ _ (Uu _ _ _ _ (H23))
      refine AllReadyIn.cons rfl (fun K hK => ?_) ?_
      · go_simp
        exact hK _ _ (Uu _ _ _ _ (H36))
      refine AllReadyIn.cons rfl (fun K hK => ?_) ?_
      · (go_simp; gi_wp2_with (refine ⟨trivial,?_⟩; gi_at_call 76; refine (CallsIn.inRound l' (callsIn_wide.2 (q64 _))).mono ?_; rintro e w' ⟨rfl,kk,rfl⟩))
        exact Uu _ _ _ _ (H48 (1 + kk))
      exact AllReadyIn.nil
    have H50 : R 10 #[Od,Od,Id,Id,Od,Od,Od,Od,Od,Od,Od,Od] { tmps := #[ςd b len cap,.int .u64 d,undef,ρd (κd0 w),ρd (κd1 w),ρd (κd2 w),ρd (κd4 w),ρd (κd5 w),.int .i64 (j : Int),.int .u64 x,ςd b len cap,.int .i64 len,ςd (κd3 w) len len,ςd b len cap,.func (.func 87) #[] #[ρd (κd6 w)],.int .i64 (j : Int),.int .u64 x,undef,undef,undef,.int .u64 c,.int .u64 x,undef,undef,undef,undef,undef,undef,undef,undef,undef],defers := [] } (W.drew) := by
      rw [← hR]
      dsimp only [ρd,ςd,κd0,κd1,κd2,κd3,κd4,κd5,κd6]
      refine wpAnyIn_ready (rs := [0,1,4]) (by kernel_rfl) (by simp) ?_
      refine AllReadyIn.cons rfl (fun K hK => ?_) ?_
      · go_simp
        exact hK _ _ (Uu _ _ _ _ (H24))
      refine AllReadyIn.cons rfl (fun K hK => ?_) ?_
      · go_simp
        exact hK _ _ (Uu _ _ _ _ (H37))
      refine AllReadyIn.cons rfl (fun K hK => ?_) ?_
      · go_simp
        exact hK _ _ (Uu _ _ _ _ (H49))
      exact AllReadyIn.nil
    have H51 : R 10 #[Od,Od,Id,Od,Id,Od,Od,Od,Od,Od,Od,Od] { tmps := #[ςd b len cap,.int .u64 d,undef,ρd (κd0 w),ρd (κd1 w),ρd (κd2 w),ρd (κd4 w),ρd (κd5 w),.int .i64 (j : Int),.int .u64 x,ςd b len cap,.int .i64 len,ςd (κd3 w) len len,ςd b len cap,.func (.func 87) #[] #[ρd (κd6 w)],.int .i64 (j : Int),.int .u64 x,undef,undef,undef,.int .u64 c,undef,.int .u64 d,undef,undef,undef,undef,undef,undef,undef,undef],defers := [] } (W.drew) := by
      rw [← hR]
      dsimp only [ρd,ςd,κd0,κd1,κd2,κd3,κd4,κd5,κd6]
      refine wpAnyIn_ready (rs := [0,1,3]) (by kernel_rfl) (by simp) ?_
      refine AllReadyIn.cons rfl (fun K hK => ?_) ?_
      · go_simp
        exact hK _ _ (Uu _ _ _ _ (H25))
      refine AllReadyIn.cons rfl (fun K hK => ?_) ?_
      · go_simp
        exact hK _ _ (Uu _ _ _ _ (H38))
      refine AllReadyIn.cons rfl (fun K hK => ?_) ?_
      · go_simp
        exact hK _ _ (Uu _ _ _ _ (H49))
      exact AllReadyIn.nil
    have H52 : R 11 #[Od,Od,Id,Od,Od,Od,Od,Od,Od,Od,Od,Od] { tmps := #[ςd b len cap,.int .u64 d,undef,ρd (κd0 w),ρd (κd1 w),ρd (κd2 w),ρd (κd4 w),ρd (κd5 w),.int .i64 (j : Int),.int .u64 x,ςd b len cap,.int .i64 len,ςd (κd3 w) len len,ςd b len cap,.func (.func 87) #[] #[ρd (κd6 w)],.int .i64 (j : Int),.int .u64 x,undef,undef,undef,.int .u64 c,undef,undef,undef,undef,undef,undef,undef,undef,undef,undef],defers := [] } (W.drew) := by
      rw [← hR]
      dsimp only [ρd,ςd,κd0,κd1,κd2,κd3,κd4,κd5,κd6]
      refine wpAnyIn_ready (rs := [0,1,3,4]) (by kernel_rfl) (by simp) ?_
      refine AllReadyIn.cons rfl (fun K hK => ?_) ?_
      · go_simp
        exact hK _ _ (Uu _ _ _ _ (H26))
      refine AllReadyIn.cons rfl (fun K hK => ?_) ?_
      · go_simp
        exact hK _ _ (Uu _ _ _ _ (H39))
      refine AllReadyIn.cons rfl (fun K hK => ?_) ?_
      · go_simp
        exact hK _ _ (Uu _ _ _ _ (H50))
      refine AllReadyIn.cons rfl (fun K hK => ?_) ?_
      · go_simp
        exact hK _ _ (Uu _ _ _ _ (H51))
      exact AllReadyIn.nil
    have H53 : R 10 #[Od,Od,Od,Id,Id,Od,Od,Od,Od,Od,Od,Od] { tmps := #[ςd b len cap,.int .u64 d,undef,ρd (κd0 w),ρd (κd1 w),ρd (κd2 w),ρd (κd4 w),ρd (κd5 w),.int .i64 (j : Int),.int .u64 x,ςd b len cap,.int .i64 len,ςd (κd3 w) len len,ςd b len cap,.func (.func 87) #[] #[ρd (κd6 w)],.int .i64 (j : Int),.int .u64 x,undef,undef,undef,undef,.int .u64 x,.int .u64 d,undef,undef,undef,undef,undef,undef,undef,undef],defers := [] } (W.drew) := by
      rw [← hR]
      dsimp only [ρd,ςd,κd0,κd1,κd2,κd3,κd4,κd5,κd6]
      refine wpAnyIn_ready (rs := [0,1,2]) (by kernel_rfl) (by simp) ?_
      refine AllReadyIn.cons rfl (fun K hK => ?_) ?_
      · go_simp
        exact hK _ _ (Uu _ _ _ _ (H27))
      refine AllReadyIn.cons rfl (fun K hK => ?_) ?_
      · go_simp
        exact hK _ _ (Uu _ _ _ _ (H40))
      refine AllReadyIn.cons rfl (fun K hK => ?_) ?_
      · go_simp
        exact hK _ _ (Uu _ _ _ _ (H49))
      exact AllReadyIn.nil
    have H54 : R 11 #[Od,Od,Od,Id,Od,Od,Od,Od,Od,Od,Od,Od] { tmps := #[ςd b len cap,.int .u64 d,undef,ρd (κd0 w),ρd (κd1 w),ρd (κd2 w),ρd (κd4 w),ρd (κd5 w),.int .i64 (j : Int),.int .u64 x,ςd b len cap,.int .i64 len,ςd (κd3 w) len len,ςd b len cap,.func (.func 87) #[] #[ρd (κd6 w)],.int .i64 (j : Int),.int .u64 x,undef,undef,undef,undef,.int .u64 x,undef,undef,undef,undef,undef,undef,undef,undef,undef],defers := [] } (W.drew) := by
      rw [← hR]
      dsimp only [ρd,ςd,κd0,κd1,κd2,κd3,κd4,κd5,κd6]
      refine wpAnyIn_ready (rs := [0,1,2,4]) (by kernel_rfl) (by simp) ?_
      refine AllReadyIn.cons rfl (fun K hK => ?_) ?_
      · go_simp
        exact hK _ _ (Uu _ _ _ _ (H28))
      refine AllReadyIn.cons rfl (fun K hK => ?_) ?_
      · go_simp
        exact hK _ _ (Uu _ _ _ _ (H41))
      refine AllReadyIn.cons rfl (fun K hK => ?_) ?_
      · go_simp
        exact hK _ _ (Uu _ _ _ _ (H50))
      refine AllReadyIn.cons rfl (fun K hK => ?_) ?_
      · go_simp
        exact hK _ _ (Uu _ _ _ _ (H53))
      exact AllReadyIn.nil
    have H55 : R 11 #[Od,Od,Od,Od,Id,Od,Od,Od,Od,Od,Od,Od] { tmps := #[ςd b len cap,.int .u64 d,undef,ρd (κd0 w),ρd (κd1 w),ρd (κd2 w),ρd (κd4 w),ρd (κd5 w),.int .i64 (j : Int),.int .u64 x,ςd b len cap,.int .i64 len,ςd (κd3 w) len len,ςd b len cap,.func (.func 87) #[] #[ρd (κd6 w)],.int .i64 (j : Int),.int .u64 x,undef,undef,undef,undef,undef,.int .u64 d,undef,undef,undef,undef,undef,undef,undef,undef],defers := [] } (W.drew) := by
      rw [← hR]
      dsimp only [ρd,ςd,κd0,κd1,κd2,κd3,κd4,κd5,κd6]
      refine wpAnyIn_ready (rs := [0,1,2,3]) (by kernel_rfl) (by simp) ?_
      refine AllReadyIn.cons rfl (fun K hK => ?_) ?_
      · go_simp
        exact hK _ _ (Uu _ _ _ _ (H29))
      refine AllReadyIn.cons rfl (fun K hK => ?_) ?_
      · go_simp
        exact hK _ _ (Uu _ _ _ _ (H42))
      refine AllReadyIn.cons rfl (fun K hK => ?_) ?_
      · go_simp
        exact hK _ _ (Uu _ _ _ _ (H51))
      refine AllReadyIn.cons rfl (fun K hK => ?_) ?_
      · go_simp
        exact hK _ _ (Uu _ _ _ _ (H53))
      exact AllReadyIn.nil
    have H56 : R 12 #[Od,Od,Od,Od,Od,Od,Od,Od,Od,Od,Od,Od] { tmps := #[ςd b len cap,.int .u64 d,undef,ρd (κd0 w),ρd (κd1 w),ρd (κd2 w),ρd (κd4 w),ρd (κd5 w),.int .i64 (j : Int),.int .u64 x,ςd b len cap,.int .i64 len,ςd (κd3 w) len len,ςd b len cap,.func (.func 87) #[] #[ρd (κd6 w)],.int .i64 (j : Int),.int .u64 x,undef,undef,undef,undef,undef,undef,undef,undef,undef,undef,undef,undef,undef,undef],defers := [] } (W.drew) := by
      rw [← hR]
      dsimp only [ρd,ςd,κd0,κd1,κd2,κd3,κd4,κd5,κd6]
      refine wpAnyIn_ready (rs := [0,1,2,3,4]) (by kernel_rfl) (by simp) ?_
      refine AllReadyIn.cons rfl (fun K hK => ?_) ?_
      · go_simp
        exact hK _ _ (Uu _ _ _ _ (H30))
      refine AllReadyIn.cons rfl (fun K hK => ?_) ?_
      · go_simp
        exact hK _ _ (Uu _ _ _ _ (H43))
      refine AllReadyIn.cons rfl (fun K hK => ?_) ?_
      · go_simp
        exact hK _ _ (Uu _ _ _ _ (H52))
      refine AllReadyIn.cons rfl (fun K hK => ?_) ?_
      · go_simp
        exact hK _ _ (Uu _ _ _ _ (H54))
      refine AllReadyIn.cons rfl (fun K hK => ?_) ?_
      · go_simp
        exact hK _ _ (Uu _ _ _ _ (H55))
      exact AllReadyIn.nil
    exact H56
  case done =>
    rintro D W hD ⟨⟨lq,c,hq,haq,hc⟩,h1,h2,h3,h4,h5,hg⟩ hK
    obtain ⟨hdq,hdr⟩ := hq.done
    have wc : Word c := ⟨hq.2.2.1,by have := hq.2.2.2.1; unfold Word at hd; omega⟩
    have hlt := (Array.getElem?_eq_some_iff.1 hK).1
    have md := fun W' (g : Below W.heap.size W W') => made_any (w.heap.size + 1 + 1 + 1) 23 len len lq W' (haq.below g haq.lt) (Nat.le_refl _) (by rw [hq.1]; exact Nat.le_refl _) (by omega) hq.2.1
    rw [hdq] at md
    have Hdr := Lib.hid hdr
    clear hdq hdr
    have bx := fun W' (g : Below W.heap.size W W') => (show W'.cell? ⟨w.heap.size + 1 + 1 + 1 + 1,0,none⟩ = some (.slice (some ⟨w.heap.size + 1 + 1 + 1,0,none⟩) len len) by rw [cell_of_row W' _ 0 _ _ (0,0) ((g.block _ (by omega)).trans h4)]; rfl)
    have by' := fun W' (g : Below W.heap.size W W') => (show W'.cell? ⟨w.heap.size + 1 + 1 + 1 + 1 + 1,0,none⟩ = some (.int .u64 c) by rw [cell_of_row W' _ 0 _ _ (0,0) ((g.block _ (by omega)).trans hc)]; rfl)
    have bz := fun (W' : World) (g : W'.heap[w.heap.size + 1 + 1 + 1 + 1]? = some (.cells #[.slice (some ⟨w.heap.size + 1 + 1 + 1,0,none⟩) len len] 24 (0,0))) => (show W'.cell? ⟨w.heap.size + 1 + 1 + 1 + 1,0,none⟩ = some (.slice (some ⟨w.heap.size + 1 + 1 + 1,0,none⟩) len len) by rw [cell_of_row W' _ 0 _ _ (0,0) g]; rfl)
    have bw := fun (W' : World) (g : W'.heap[w.heap.size + 1 + 1 + 1 + 1 + 1]? = some (.cells #[.int .u64 c] 23 (0,0))) => (show W'.cell? ⟨w.heap.size + 1 + 1 + 1 + 1 + 1,0,none⟩ = some (.int .u64 c) by rw [cell_of_row W' _ 0 _ _ (0,0) g]; rfl)
    have n41 : w.heap.size + 1 + 1 + 1 + 1 ≠ w.heap.size + 1 := by omega
    have n42 : w.heap.size + 1 + 1 + 1 + 1 ≠ w.heap.size + 1 + 1 := by omega
    have n51 : w.heap.size + 1 + 1 + 1 + 1 + 1 ≠ w.heap.size + 1 := by omega
    have n52 : w.heap.size + 1 + 1 + 1 + 1 + 1 ≠ w.heap.size + 1 + 1 := by omega
    have z4 : w.heap.size + 1 + 1 + 1 + 1 < W.heap.size := (Array.getElem?_eq_some_iff.1 h4).1
    have z5 : w.heap.size + 1 + 1 + 1 + 1 + 1 < W.heap.size := (Array.getElem?_eq_some_iff.1 hc).1
    have zz2 := h2.lt
    have zz3 := h3.lt
    have b1 := bx W (Below.refl _ _)
    have b2 := by' W (Below.refl _ _)
    have acc := Below.refl W.heap.size W
    gi_wp2
    refine wpIn_wide.2 ?_
    go_region_held3 (fun w' => w'.cell? ⟨w.heap.size + 1 + 1 + 1 + 1,0,none⟩ = some (.slice (some ⟨w.heap.size + 1 + 1 + 1,0,none⟩) len len) ∧ w'.cell? ⟨w.heap.size + 1 + 1 + 1 + 1 + 1,0,none⟩ = some (.int .u64 c))
      (first | with_reducible exact ⟨bx _ acc,by' _ acc⟩ | with_reducible exact ⟨bx _ acc.drew,by' _ acc.drew⟩ | with_reducible exact ⟨bz _ ((heap_two n41 _ _).trans r4),bw _ ((heap_two n51 _ _).trans r5)⟩ | with_reducible exact ⟨bz _ ((heap_two n42 _ _).trans ((heap_two n41 _ _).trans r4)),bw _ ((heap_two n52 _ _).trans ((heap_two n51 _ _).trans r5))⟩)
      (first
        | (go_at_call 79; (first | (have q := md _ acc; (with_reducible refine q.mono ?_); clear q) | (have q := md _ acc.drew; (with_reducible refine q.mono ?_); clear q)); rintro e wa ⟨v,rfl,hv,hva⟩; obtain ⟨va,vp,vl,vc,rfl⟩ := hv.shape; (first | replace hva : Below W.heap.size W wa := hva | replace hva := below_undrew (w := W) hva); replace acc := below_acc acc acc.size hva; clear hva; have b1 := bx _ acc; have b2 := by' _ acc)
        | (go_at_call 48; (first | (have q := of_any c wa; (with_reducible refine q.mono ?_); clear q) | (have q := of_any c wa.drew; (with_reducible refine q.mono ?_); clear q)); rintro e wb ⟨rfl,hvb⟩; (first | replace hvb : Below wa.heap.size wa wb := hvb | replace hvb := below_undrew (w := wa) hvb); replace acc := below_acc acc acc.size hvb; replace hv := hv.below hvb; clear hvb; have r4 := (acc.block _ z4).trans h4; have r5 := (acc.block _ z5).trans hc; have u2 := h2.below acc zz2; have u3 := h3.below acc zz3; have c20 := u2.c0; have c21 := u2.c1; have f20 := u2.free 0; have f21 := u2.free 1; have c30 := u3.c0; have c31 := u3.c1; have f30 := u3.free 0; have f31 := u3.free 1))
    all_goals
      gi_wp2
      have hK2 : ((((wb.setCell ⟨w.heap.size + 1,0,none⟩ (.int .u64 va)).setCell ⟨w.heap.size + 1,1,none⟩ (.slice vp vl vc)).setCell ⟨w.heap.size + 1 + 1,0,none⟩ (.int .u64 c)).setCell ⟨w.heap.size + 1 + 1,1,none⟩ (.slice none 0 0)).heap[D]? = some (.deferred (some [])) :=
        (heap_two (by omega) _ _).trans ((heap_two (by omega) _ _).trans ((acc.block D hlt).trans hK))
      have y2 := ((u2.set (.int .u64 va) vp vl vc).other (d := w.heap.size + 1 + 1) (i := 0) (by omega) (.int .u64 c)).other (d := w.heap.size + 1 + 1) (i := 1) (by omega) (.slice none 0 0)
      have y3 := ((u3.other (d := w.heap.size + 1) (i := 0) (by omega) (.int .u64 va)).other (d := w.heap.size + 1) (i := 1) (by omega) (.slice vp vl vc)).set (.int .u64 c) none 0 0
      have hv2 := (hv.two u2 (.int .u64 va) (.slice vp vl vc)).two ((u3.other (d := w.heap.size + 1) (i := 0) (by omega) (.int .u64 va)).other (d := w.heap.size + 1) (i := 1) (by omega) (.slice vp vl vc)) (.int .u64 c) (.slice none 0 0)
      have hbw : Below w.heap.size w ((((wb.setCell ⟨w.heap.size + 1,0,none⟩ (.int .u64 va)).setCell ⟨w.heap.size + 1,1,none⟩ (.slice vp vl vc)).setCell ⟨w.heap.size + 1 + 1,0,none⟩ (.int .u64 c)).setCell ⟨w.heap.size + 1 + 1,1,none⟩ (.slice none 0 0)) :=
        below_two (below_two (hg.trans (acc.mono hg.size)) (by omega) _ _) (by omega) _ _
      clear acc
      generalize (((wb.setCell ⟨w.heap.size + 1,0,none⟩ (.int .u64 va)).setCell ⟨w.heap.size + 1,1,none⟩ (.slice vp vl vc)).setCell ⟨w.heap.size + 1 + 1,0,none⟩ (.int .u64 c)).setCell ⟨w.heap.size + 1 + 1,1,none⟩ (.slice none 0 0) = X at hK2 y2 y3 hv2 hbw ⊢
      refine ⟨by simp,.inl ⟨_,_,rfl,run_takeDeferred hK2,?_⟩⟩
      have hp := grownBy_putObj' X D (.deferred none)
      have l2 := y2.grown hp (by simp; omega)
      have l3 := y3.grown hp (by simp; omega)
      refine ⟨.tuple #[.agg #[.int .u64 va,.slice vp vl vc],.agg #[.int .u64 c,.slice none 0 0]],?_,_,_,rfl,?_,?_,hbw.grown hp hbw.size (fun k e => by cases e; omega)⟩
      · simp [results,Tryz.results74,asAddr,run_loadVar_nat l2,run_loadVar_nat l3]
      · rcases hv2 with h | ⟨b',t',len',cap',l',e1,ha',r⟩
        · exact .inl h
        · exact .inr ⟨b',t',len',cap',l',e1,heap_cells ha' hp (fun r e => by cases e; exact ⟨_,hK2,rfl⟩),r⟩
      · rw [← Hdr.out]; exact .inl ⟨wc,rfl⟩
end Go.Proofs.YtgccgacpifebbaaGreatDoor
