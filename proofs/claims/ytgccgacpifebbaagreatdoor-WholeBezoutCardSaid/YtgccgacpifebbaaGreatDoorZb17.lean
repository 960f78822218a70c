/- ShiftDown -/
import Derived.Test.YtgccgacpifebbaaGreatDoorZb16
import Derived.Test.YtgccgacpifebbaaGreatDoorZb04
import Derived.BigRegionIn
namespace Go.Proofs.YtgccgacpifebbaaGreatDoor
open Go.RowKit Go.Shelf
set_option linter.unusedVariables false
def ρs (x : Nat) : Value := Value.pointer (some (Addr.mk x 0 none))
def ςs (a l c : Nat) : Value := Value.slice (some (Addr.mk a 0 none)) l c
def Is : Bool := true
def Os : Bool := false
def κs0 (w : World) : Nat := w.heap.size
def κs1 (w : World) : Nat := w.heap.size + 1
def κs2 (w : World) : Nat := w.heap.size + 1 + 1
def κs3 (w : World) : Nat := w.heap.size + 1 + 1 + 1
attribute [local go_sem] Oper.semAt_some
theorem shr_word {x : Int} {s : Nat} (h : Word x) (hs : s ≤ 63) : 0 ≤ x / 2 ^ s ∧ x / 2 ^ s < 2 ^ (64 - s) ∧ x = x / 2 ^ s * 2 ^ s + x % 2 ^ s ∧ 0 ≤ x % 2 ^ s ∧ x % 2 ^ s < 2 ^ s ∧ IntKind.u64.wrap (x * 2 ^ (64 - s)) = x % 2 ^ s * 2 ^ (64 - s) := by
  have e : (2 : Int) ^ (64 - s) * 2 ^ s = 18446744073709551616 := by
    rw [← Int.pow_add,Nat.sub_add_cancel (by omega)]; decide
  have p1 : (0 : Int) < 2 ^ (64 - s) := Int.pow_pos (by decide)
  have p2 : (0 : Int) < 2 ^ s := Int.pow_pos (by decide)
  have d1 := Int.mul_ediv_add_emod x (2 ^ s)
  have d2 := Int.emod_nonneg x (show (2 : Int) ^ s ≠ 0 by omega)
  have d3 := Int.emod_lt_of_pos x p2
  have d4 : 0 ≤ x / 2 ^ s := Int.ediv_nonneg h.1 (by omega)
  have d5 : x / 2 ^ s < 2 ^ (64 - s) := (Int.ediv_lt_iff_lt_mul p2).2 (by rw [e]; exact h.2)
  rw [Int.mul_comm] at d1
  generalize x / 2 ^ s = q at *
  generalize x % 2 ^ s = r at *
  refine ⟨d4,d5,d1.symm,d2,d3,?_⟩
  have e1 : x * 2 ^ (64 - s) = q * 18446744073709551616 + r * 2 ^ (64 - s) := by
    rw [← d1,Int.add_mul,Int.mul_assoc,Int.mul_comm (2 ^ s),e]
  have e2 : 0 ≤ r * 2 ^ (64 - s) := Int.mul_nonneg d2 (by omega)
  have e3 : r * 2 ^ (64 - s) < 18446744073709551616 := by
    rw [← e,Int.mul_comm (2 ^ (64 - s))]; exact Int.mul_lt_mul_of_pos_right d3 p1
  rw [IntKind.wrap_u64,e1]
  omega
theorem shr_or {q r : Int} {s : Nat} (h0 : 0 ≤ q) (h1 : q < 2 ^ (64 - s)) (g0 : 0 ≤ r) (g1 : r < 2 ^ s) (hs : s ≤ 63) : bits .or .u64 q (r * 2 ^ (64 - s)) = q + r * 2 ^ (64 - s) ∧ Word (q + r * 2 ^ (64 - s)) := by
  have e : (2 : Int) ^ (64 - s) * 2 ^ s = 18446744073709551616 := by
    rw [← Int.pow_add,Nat.sub_add_cancel (by omega)]; decide
  have p1 : (0 : Int) < 2 ^ (64 - s) := Int.pow_pos (by decide)
  have e3 : r * 2 ^ (64 - s) + 2 ^ (64 - s) ≤ 18446744073709551616 := by
    have : (r + 1) * 2 ^ (64 - s) ≤ 2 ^ s * 2 ^ (64 - s) := Int.mul_le_mul_of_nonneg_right (by omega) (by omega)
    rw [Int.mul_comm (2 ^ s),e,Int.add_mul,Int.one_mul] at this
    exact this
  have e4 : 0 ≤ r * 2 ^ (64 - s) := Int.mul_nonneg g0 (by omega)
  have ho := or_shift (a := r) (c := q) (S := 64 - s) g0 (by omega) (by omega) h0 h1
  refine ⟨?_,by omega,by omega⟩
  have hc : bits .or .u64 q (r * 2 ^ (64 - s)) = bits .or .u64 (r * 2 ^ (64 - s)) q := by
    obtain ⟨X,hX⟩ := Int.eq_ofNat_of_zero_le e4
    obtain ⟨C,rfl⟩ := Int.eq_ofNat_of_zero_le h0
    rw [hX] at e3 e4 ⊢
    rw [u64_or_nat C X (by omega) (by omega),u64_or_nat X C (by omega) (by omega),Nat.or_comm]
  rw [hc,ho,Int.add_comm]
theorem seg_cons {l : List Int} {o k : Nat} (h : o + 1 + k ≤ l.length) : seg l o (k + 1) = l.getD o 0 + 18446744073709551616 * seg l (o + 1) k := by
  rw [Nat.add_comm k 1,seg_add (by omega),seg_succ (by omega),seg_zero]
  simp [pw]
/-- Behind k words,the highest: H is what they were worth; they are worth H by 2^s now,and c is what is carried down. -/
def DownAt (l lk : List Int) (len k s : Nat) (c : Int) : Prop :=
  lk.length = l.length ∧ Words lk ∧ (∀ j,j < len - k ∨ len ≤ j → lk.getD j 0 = l.getD j 0) ∧ ∃ r,0 ≤ r ∧ r < 2 ^ s ∧ c = r * 2 ^ (64 - s) ∧ seg l (len - k) k = seg lk (len - k) k * 2 ^ s + r
theorem lin_down {B T U y q r x r' Q H : Int} (hB : B = U * T) (hx : x = q * T + r') (hy : y = q + r * U) (hv : H = Q * T + r) : x + B * H = (y + B * Q) * T + r' := by
  have e1 : B * H = B * Q * T + B * r := by rw [hv,Int.mul_add,Int.mul_assoc]
  have e2 : (y + B * Q) * T = q * T + r * U * T + B * Q * T := by rw [hy,Int.add_mul,Int.add_mul]
  have e3 : r * U * T = B * r := by rw [hB,Int.mul_assoc,Int.mul_comm r]
  rw [e1,e2,e3,hx]; omega
theorem DownAt.step {l lk : List Int} {len k s : Nat} {c : Int} (h : DownAt l lk len k s c) (hk : k < len) (hl : len ≤ l.length) (hs : s ≤ 63) (hw : Words l) :
    bits .or .u64 (l.getD (len - 1 - k) 0 / 2 ^ s) c = l.getD (len - 1 - k) 0 / 2 ^ s + c ∧ Word (l.getD (len - 1 - k) 0 / 2 ^ s + c) ∧
    DownAt l (lk.set (len - 1 - k) (l.getD (len - 1 - k) 0 / 2 ^ s + c)) len (k + 1) s (IntKind.u64.wrap (l.getD (len - 1 - k) 0 * 2 ^ (64 - s))) := by
  obtain ⟨hlen,hwk,hrest,r,r0,r1,rfl,hv⟩ := h
  obtain ⟨j,hj⟩ : ∃ j,len - 1 - k = j := ⟨_,rfl⟩
  have hj1 : len - k = j + 1 := by omega
  have hj2 : len - (k + 1) = j := by omega
  rw [hj1] at hv hrest
  rw [hj]
  obtain ⟨q0,q1,hx,x0,x1,hwr⟩ := shr_word (hw.getD j) hs
  obtain ⟨ho,hW⟩ := shr_or q0 q1 r0 r1 hs
  refine ⟨ho,hW,by simp [hlen],hwk.set _ hW,?_,_,x0,x1,hwr,?_⟩
  · intro i hi
    rw [hj2] at hi
    rw [getD_set _ _ _ _ (by omega),if_neg (by omega)]
    exact hrest i (by omega)
  · rw [hj2,seg_cons (by omega),seg_cons (l := lk.set j _) (by simp; omega),getD_set _ _ _ _ (by omega),if_pos rfl,
      seg_congr (l := lk.set j _) (l' := lk) (by simp; omega) (by omega) (fun i h1 h2 => by rw [getD_set _ _ _ _ (by omega),if_neg (by omega)])]
    refine lin_down (U := 2 ^ (64 - s)) (q := l.getD j 0 / 2 ^ s) (r := r) ?_ hx rfl hv
    rw [← Int.pow_add,Nat.sub_add_cancel (by omega)]; decide
theorem DownAt.done {l lk : List Int} {len s : Nat} {c : Int} (h : DownAt l lk len len s c) : seg lk 0 len = seg l 0 len / 2 ^ s := by
  obtain ⟨hlen,hwk,hrest,r,r0,r1,rfl,hv⟩ := h
  rw [Nat.sub_self] at hv
  rw [hv]
  have p2 : (0 : Int) < 2 ^ s := Int.pow_pos (by decide)
  rw [Int.add_comm,Int.add_mul_ediv_right _ _ (by omega),Int.ediv_eq_zero_of_lt r0 r1,Int.zero_add]
/-- What holds at round k of the walk: the boxes stand,and the row is so far. -/
def DownI (w : World) (b t len cap s : Nat) (l : List Int) (k : Nat) (W : World) : Prop :=
  (∃ lk c,DownAt l lk len k s c ∧ Arr W b t .u64 lk ∧ W.heap[w.heap.size + 1 + 1]? = some (.cells #[.int .u64 c] 23 (0,0))) ∧
  W.heap[w.heap.size]? = some (.cells #[.slice (some ⟨b,0,none⟩) len cap] 24 (0,0)) ∧ W.heap[w.heap.size + 1]? = some (.cells #[.int .i64 s] 3 (0,0)) ∧
  W.heap[w.heap.size + 1 + 1 + 1]? = some (.cells #[.slice (some ⟨b,0,none⟩) len cap] 24 (0,0)) ∧ w.grownBy W (some b)
theorem heap_cells {W W' : World} {row : Option Nat} {r : Nat} {a : Array Value} {t : TypeId} {z : Nat × Nat} (h : W.heap[r]? = some (.cells a t z)) (hg : W.grownBy W' row) (hr : ∀ r,row = some r → ∃ o : Obj,W.heap[r]? = some o ∧ o.isCells = false) : W'.heap[r]? = some (.cells a t z) := by
  refine (hg.block r (Array.getElem?_eq_some_iff.1 h).1 (fun e => ?_)).trans h
  obtain ⟨o,ho,hc⟩ := hr r e.symm
  rw [h] at ho
  cases ho
  simp [Obj.isCells] at hc
theorem grownBy_above {w W : World} {b r i : Nat} {v : Value} (h : w.grownBy W (some b)) (hr : w.heap.size ≤ r) : w.grownBy (W.setCell ⟨r,i,none⟩ v) (some b) :=
  ⟨h.os,h.tape,h.output,by have := h.size; simpa [World.setCell] using this,fun k hk hne => (heap_setCell_other W ⟨r,i,none⟩ k v (by show k ≠ r; omega)).trans (h.block k hk hne)⟩
theorem downI_own (w : World) (b t len cap s B : Nat) (l : List Int) (hb : b < w.heap.size) (hB : w.heap.size ≤ B) : OwnFrom B (fun k W => DownI w b t len cap s l k W) := by
  rintro k W W' row ⟨⟨lk,c,hd,ha,hc⟩,h1,h2,h3,hg⟩ hgr hr
  have hr' := fun r e => (hr r e).2
  refine ⟨⟨lk,c,hd,heap_cells ha hgr hr',heap_cells hc hgr hr'⟩,heap_cells h1 hgr hr',heap_cells h2 hgr hr',heap_cells h3 hgr hr',?_⟩
  refine ⟨hgr.os.trans hg.os,hgr.tape.trans hg.tape,hgr.output.trans hg.output,Nat.le_trans hg.size hgr.size,fun j hj hne => ?_⟩
  rw [hgr.block j (Nat.lt_of_lt_of_le hj hg.size) (fun e => by have := (hr j e.symm).1; omega)]
  exact hg.block j hj hne
set_option maxRecDepth 100000 in
set_option maxHeartbeats 2000000 in
theorem shiftDown_any (b t len cap s : Nat) (l : List Int) (w : World) (ha : Arr w b t .u64 l) (hl : len ≤ l.length) (hm : len ≤ 4294967296) (hw : Words l) (hs : s ≤ 63) :
    Calls Tryz.prog 127 #[.slice (some ⟨b,0,none⟩) len cap,.int .i64 s] w fun e w' => e = .returned (.tuple #[]) ∧ ∃ lk,Arr w' b t .u64 lk ∧ lk.length = l.length ∧ Words lk ∧ (∀ j,len ≤ j → lk.getD j 0 = l.getD j 0) ∧ seg lk 0 len = seg l 0 len / 2 ^ s ∧ w.grownBy w' (some b) := by
  have k1 := ha.lt
  have hB0 : w.grownBy ((((w.alloc (.cells #[.slice (some ⟨b,0,none⟩) len cap] 24)).alloc (.cells #[.int .i64 s] 3)).alloc (.cells #[.int .u64 0] 23)).alloc (.cells #[.slice (some ⟨b,0,none⟩) len cap] 24)) (some b) := grownBy_below (by go_grown) (Nat.le_refl _) _
  have i0 : DownI w b t len cap s l 0 ((((w.alloc (.cells #[.slice (some ⟨b,0,none⟩) len cap] 24)).alloc (.cells #[.int .i64 s] 3)).alloc (.cells #[.int .u64 0] 23)).alloc (.cells #[.slice (some ⟨b,0,none⟩) len cap] 24)) := by
    refine ⟨⟨l,0,⟨rfl,hw,fun j _ => rfl,0,Int.le_refl _,Int.pow_pos (by decide),by simp,by simp [seg_zero]⟩,(((ha.alloc _).alloc _).alloc _).alloc _,?_⟩,?_,?_,?_,hB0⟩
    · exact (heap_old _ _ _ (by simp)).trans (heap_new _ _ _ (by simp))
    · exact (heap_old _ _ _ (by simp; omega)).trans ((heap_old _ _ _ (by simp; omega)).trans ((heap_old _ _ _ (by simp)).trans (heap_new _ _ _ rfl)))
    · exact (heap_old _ _ _ (by simp)).trans ((heap_old _ _ _ (by simp)).trans (heap_new _ _ _ (by simp)))
    · exact heap_new _ _ _ (by simp)
  have hz : ((((w.alloc (.cells #[.slice (some ⟨b,0,none⟩) len cap] 24)).alloc (.cells #[.int .i64 s] 3)).alloc (.cells #[.int .u64 0] 23)).alloc (.cells #[.slice (some ⟨b,0,none⟩) len cap] 24)).heap.size = w.heap.size + 1 + 1 + 1 + 1 := by simp
  refine (callsIn_wide (n := 5)).1 ?_
  refine callsIn_of_wp_marks Tryz.func127 rfl trivial ?_ rfl
  simp only [Tryz.ntmps127,List.size_toArray,List.length_cons,List.length_nil,Nat.reduceAdd,Nat.reduceSub,Array.replicate_succ,Array.replicate_zero,List.push_toArray,List.append_toArray,List.nil_append,List.cons_append]
  gi_wp2_with (refine ⟨trivial,?_⟩; gi_at_call 57; refine (back_in Fence.wide 4 trivial rfl _ _ _ _).mono ?_; rintro e w' ⟨rfl,rfl⟩)
  generalize ((((w.alloc (.cells #[.slice (some ⟨b,0,none⟩) len cap] 24)).alloc (.cells #[.int .i64 s] 3)).alloc (.cells #[.int .u64 0] 23)).alloc (.cells #[.slice (some ⟨b,0,none⟩) len cap] 24)) = W0 at i0 hB0 hz ⊢
  refine wpIn_steps rfl (by decide) (gf := 87) (lb := #[.pointer (some ⟨w.heap.size + 1 + 1 + 1,0,none⟩)]) rfl trivial (enters_of Tryz.func87 (by kernel_rfl) rfl)
    len (fun k => #[.int .i64 ((len - 1 - k : Nat) : Int),.int .u64 (l.getD (len - 1 - k) 0)]) (fun _ => rfl) (fun k W => DownI w b t len cap s l k W) (downI_own w b t len cap s _ l k1 (by omega)) i0
    (fun l' J W hJ _ hY h0 => back_steps Fence.wide 4 trivial rfl (by decide) l' (w.heap.size + 1 + 1 + 1) len cap (some ⟨b,0,none⟩) (fun k => l.getD (len - 1 - k) 0) (by omega) J (fun k W h => ?cells) hY W h0)
    (fun k => { tmps := #[.slice (some ⟨b,0,none⟩) len cap,.int .i64 s,.pointer (some ⟨w.heap.size,0,none⟩),.pointer (some ⟨w.heap.size + 1,0,none⟩),.pointer (some ⟨w.heap.size + 1 + 1,0,none⟩),.int .i64 ((len - 1 - k : Nat) : Int),.int .u64 (l.getD (len - 1 - k) 0),.slice (some ⟨b,0,none⟩) len cap,.func (.func 87) #[] #[.pointer (some ⟨w.heap.size + 1 + 1 + 1,0,none⟩)],.int .i64 ((len - 1 - k : Nat) : Int),.int .u64 (l.getD (len - 1 - k) 0),undef,undef,undef,undef,undef,undef,undef,undef,undef,undef,undef,undef],defers := [] }) ?assign ?body ?done
  case cells =>
    obtain ⟨⟨lk,c,hd,hak,hc⟩,h1,h2,h3,hg⟩ := hJ k W h
    refine ⟨by rw [cell_of_row W _ 0 _ _ (0,0) h3]; rfl,fun hk => ⟨b,rfl,?_⟩⟩
    have := hak.cell (len - 1 - k) (by rw [hd.1]; omega)
    rw [hd.2.2.1 _ (by omega)] at this
    exact this
  case assign =>
    intro l' k W K hK
    generalize l.getD (len - 1 - k) 0 = z at hK ⊢
    generalize len - 1 - k = j at hK ⊢
    gi_wp2
    exact hK
  case body =>
    rintro l' k W hk ⟨⟨lk,c,hd,hak,hc⟩,h1,h2,h3,hg⟩
    obtain ⟨ho,hwd,st⟩ := hd.step hk hl hs hw
    have hcz := hak.cell (len - 1 - k) (by rw [hd.1]; omega)
    have hfz := hak.free (len - 1 - k)
    obtain ⟨j,hj⟩ : ∃ j,len - 1 - k = j := ⟨_,rfl⟩
    have hjl : j < len := by omega
    rw [hj] at ho hwd st hcz hfz ⊢
    generalize l.getD j 0 = x at ho hwd st ⊢
    obtain ⟨Y,hY⟩ : ∃ Y,x / 2 ^ s + c = Y := ⟨_,rfl⟩
    rw [hY] at ho st
    generalize lk.getD j 0 = z at hcz
    have b0 : W.cell? ⟨w.heap.size,0,none⟩ = some (.slice (some ⟨b,0,none⟩) len cap) := by rw [cell_of_row W _ 0 _ _ (0,0) h1]; rfl
    have b1 : W.cell? ⟨w.heap.size + 1,0,none⟩ = some (.int .i64 s) := by rw [cell_of_row W _ 0 _ _ (0,0) h2]; rfl
    have b2 : W.cell? ⟨w.heap.size + 1 + 1,0,none⟩ = some (.int .u64 c) := by rw [cell_of_row W _ 0 _ _ (0,0) hc]; rfl
    have f2 : W.frozen? ⟨w.heap.size + 1 + 1,0,none⟩ = false := frozen_of_row W _ 0 _ _ hc
    have i0 : (0 : Int) ≤ (j : Int) := by omega
    have i1 : (j : Int) < (len : Int) := by omega
    have i2 : (0 : Int) ≤ (s : Int) := by omega
    gi_wp2
    refine region_ways (by kernel_rfl) fun R hR => ?_
    have Uu := fun (n : Nat) (l : Array Bool) (a : Act) (w : World) (h : R n l a w) => cast (congrFun (congrFun (congrFun (congrFun hR.symm n) l) a) w) h
    have H0 : R 0 #[Is,Is,Is,Is,Is,Is,Is,Is,Is] { tmps := #[ςs b len cap,.int .i64 s,ρs (κs0 w),ρs (κs1 w),ρs (κs2 w),.int .i64 (j : Int),.int .u64 x,ςs b len cap,.func (.func 87) #[] #[ρs (κs3 w)],.int .i64 (j : Int),.int .u64 x,ςs b len cap,.int .i64 (j : Int),.int .u64 x,.int .i64 s,.int .u64 (x / 2 ^ s),.int .u64 c,.int .u64 Y,.pointer (some ⟨b,j,none⟩),undef,undef,undef,undef],defers := [] } ((W.drew).setCell ⟨b,j,none⟩ (.int .u64 Y)) := by
      rw [← hR]
      dsimp only [ρs,ςs,κs0,κs1,κs2,κs3]
      refine wpAnyIn_done (by kernel_rfl) ?_ _
      gi_wp2
      have kk := (KeepsOthers.setCell W ⟨b,j,none⟩ (.int .u64 Y)).trans (KeepsOthers.setCell (W.setCell ⟨b,j,none⟩ (.int .u64 Y)) ⟨w.heap.size + 1 + 1,0,none⟩ (.int .u64 (IntKind.u64.wrap (x * 2 ^ (64 - s)))))
      have kf := kk.from W0.heap.size
      refine ⟨⟨kf.size,kf.same⟩,⟨_,_,st,?_,?_⟩,?_,?_,?_,?_⟩
      · exact ((hak.set j Y).other (by show b ≠ w.heap.size + 1 + 1; omega) _).drew
      · exact heap_setCell_same _ _ 0 _ _ _ ((heap_setCell_other W ⟨b,j,none⟩ _ _ (by show w.heap.size + 1 + 1 ≠ b; omega)).trans hc)
      · exact (heap_setCell_other _ ⟨w.heap.size + 1 + 1,0,none⟩ _ _ (by show w.heap.size ≠ w.heap.size + 1 + 1; omega)).trans ((heap_setCell_other W ⟨b,j,none⟩ _ _ (by show w.heap.size ≠ b; omega)).trans h1)
      · exact (heap_setCell_other _ ⟨w.heap.size + 1 + 1,0,none⟩ _ _ (by show w.heap.size + 1 ≠ w.heap.size + 1 + 1; omega)).trans ((heap_setCell_other W ⟨b,j,none⟩ _ _ (by show w.heap.size + 1 ≠ b; omega)).trans h2)
      · exact (heap_setCell_other _ ⟨w.heap.size + 1 + 1,0,none⟩ _ _ (by show w.heap.size + 1 + 1 + 1 ≠ w.heap.size + 1 + 1; omega)).trans ((heap_setCell_other W ⟨b,j,none⟩ _ _ (by show w.heap.size + 1 + 1 + 1 ≠ b; omega)).trans h3)
      · exact grownBy_trans (grownBy_above (grownBy_trans hg (grownBy_set W b j _)) (by omega)) (grownBy_drew _ _)
    have H1 : R 1 #[Is,Is,Is,Is,Is,Is,Is,Is,Os] { tmps := #[ςs b len cap,.int .i64 s,ρs (κs0 w),ρs (κs1 w),ρs (κs2 w),.int .i64 (j : Int),.int .u64 x,ςs b len cap,.func (.func 87) #[] #[ρs (κs3 w)],.int .i64 (j : Int),.int .u64 x,ςs b len cap,.int .i64 (j : Int),.int .u64 x,.int .i64 s,.int .u64 (x / 2 ^ s),.int .u64 c,.int .u64 Y,.pointer (some ⟨b,j,none⟩),undef,undef,undef,undef],defers := [] } (W.drew) := by
      rw [← hR]
      dsimp only [ρs,ςs,κs0,κs1,κs2,κs3]
      refine wpAnyIn_ready (rs := [8]) (by kernel_rfl) (by simp) ?_
      refine AllReadyIn.cons rfl (fun K hK => ?_) ?_
      · go_simp
        exact hK _ _ (Uu _ _ _ _ (H0))
      exact AllReadyIn.nil
    have H2 : R 2 #[Is,Is,Is,Is,Is,Is,Is,Os,Os] { tmps := #[ςs b len cap,.int .i64 s,ρs (κs0 w),ρs (κs1 w),ρs (κs2 w),.int .i64 (j : Int),.int .u64 x,ςs b len cap,.func (.func 87) #[] #[ρs (κs3 w)],.int .i64 (j : Int),.int .u64 x,ςs b len cap,.int .i64 (j : Int),.int .u64 x,.int .i64 s,.int .u64 (x / 2 ^ s),.int .u64 c,.int .u64 Y,undef,undef,undef,undef,undef],defers := [] } (W.drew) := by
      rw [← hR]
      dsimp only [ρs,ςs,κs0,κs1,κs2,κs3]
      refine wpAnyIn_ready (rs := [7]) (by kernel_rfl) (by simp) ?_
      refine AllReadyIn.cons rfl (fun K hK => ?_) ?_
      · go_simp
        exact hK _ _ (Uu _ _ _ _ (H1))
      exact AllReadyIn.nil
    have H3 : R 3 #[Is,Is,Is,Is,Is,Is,Os,Os,Os] { tmps := #[ςs b len cap,.int .i64 s,ρs (κs0 w),ρs (κs1 w),ρs (κs2 w),.int .i64 (j : Int),.int .u64 x,ςs b len cap,.func (.func 87) #[] #[ρs (κs3 w)],.int .i64 (j : Int),.int .u64 x,ςs b len cap,.int .i64 (j : Int),.int .u64 x,.int .i64 s,.int .u64 (x / 2 ^ s),.int .u64 c,undef,undef,undef,undef,undef,undef],defers := [] } (W.drew) := by
      rw [← hR]
      dsimp only [ρs,ςs,κs0,κs1,κs2,κs3]
      refine wpAnyIn_ready (rs := [6]) (by kernel_rfl) (by simp) ?_
      refine AllReadyIn.cons rfl (fun K hK => ?_) ?_
      · go_simp
        exact hK _ _ (Uu _ _ _ _ (H2))
      exact AllReadyIn.nil
    have H4 : R 4 #[Is,Is,Is,Is,Is,Os,Os,Os,Os] { tmps := #[ςs b len cap,.int .i64 s,ρs (κs0 w),ρs (κs1 w),ρs (κs2 w),.int .i64 (j : Int),.int .u64 x,ςs b len cap,.func (.func 87) #[] #[ρs (κs3 w)],.int .i64 (j : Int),.int .u64 x,ςs b len cap,.int .i64 (j : Int),.int .u64 x,.int .i64 s,.int .u64 (x / 2 ^ s),undef,undef,undef,undef,undef,undef,undef],defers := [] } (W.drew) := by
      rw [← hR]
      dsimp only [ρs,ςs,κs0,κs1,κs2,κs3]
      refine wpAnyIn_ready (rs := [5]) (by kernel_rfl) (by simp) ?_
      refine AllReadyIn.cons rfl (fun K hK => ?_) ?_
      · go_simp
        exact hK _ _ (Uu _ _ _ _ (H3))
      exact AllReadyIn.nil
    have H5 : R 4 #[Is,Is,Is,Is,Os,Is,Os,Os,Os] { tmps := #[ςs b len cap,.int .i64 s,ρs (κs0 w),ρs (κs1 w),ρs (κs2 w),.int .i64 (j : Int),.int .u64 x,ςs b len cap,.func (.func 87) #[] #[ρs (κs3 w)],.int .i64 (j : Int),.int .u64 x,ςs b len cap,.int .i64 (j : Int),.int .u64 x,.int .i64 s,undef,.int .u64 c,undef,undef,undef,undef,undef,undef],defers := [] } (W.drew) := by
      rw [← hR]
      dsimp only [ρs,ςs,κs0,κs1,κs2,κs3]
      refine wpAnyIn_ready (rs := [4]) (by kernel_rfl) (by simp) ?_
      refine AllReadyIn.cons rfl (fun K hK => ?_) ?_
      · go_simp
        exact hK _ _ (Uu _ _ _ _ (H3))
      exact AllReadyIn.nil
    have H6 : R 5 #[Is,Is,Is,Is,Os,Os,Os,Os,Os] { tmps := #[ςs b len cap,.int .i64 s,ρs (κs0 w),ρs (κs1 w),ρs (κs2 w),.int .i64 (j : Int),.int .u64 x,ςs b len cap,.func (.func 87) #[] #[ρs (κs3 w)],.int .i64 (j : Int),.int .u64 x,ςs b len cap,.int .i64 (j : Int),.int .u64 x,.int .i64 s,undef,undef,undef,undef,undef,undef,undef,undef],defers := [] } (W.drew) := by
      rw [← hR]
      dsimp only [ρs,ςs,κs0,κs1,κs2,κs3]
      refine wpAnyIn_ready (rs := [4,5]) (by kernel_rfl) (by simp) ?_
      refine AllReadyIn.cons rfl (fun K hK => ?_) ?_
      · go_simp
        exact hK _ _ (Uu _ _ _ _ (H4))
      refine AllReadyIn.cons rfl (fun K hK => ?_) ?_
      · go_simp
        exact hK _ _ (Uu _ _ _ _ (H5))
      exact AllReadyIn.nil
    have H7 : R 5 #[Is,Is,Is,Os,Os,Is,Os,Os,Os] { tmps := #[ςs b len cap,.int .i64 s,ρs (κs0 w),ρs (κs1 w),ρs (κs2 w),.int .i64 (j : Int),.int .u64 x,ςs b len cap,.func (.func 87) #[] #[ρs (κs3 w)],.int .i64 (j : Int),.int .u64 x,ςs b len cap,.int .i64 (j : Int),.int .u64 x,undef,undef,.int .u64 c,undef,undef,undef,undef,undef,undef],defers := [] } (W.drew) := by
      rw [← hR]
      dsimp only [ρs,ςs,κs0,κs1,κs2,κs3]
      refine wpAnyIn_ready (rs := [3]) (by kernel_rfl) (by simp) ?_
      refine AllReadyIn.cons rfl (fun K hK => ?_) ?_
      · go_simp
        exact hK _ _ (Uu _ _ _ _ (H5))
      exact AllReadyIn.nil
    have H8 : R 6 #[Is,Is,Is,Os,Os,Os,Os,Os,Os] { tmps := #[ςs b len cap,.int .i64 s,ρs (κs0 w),ρs (κs1 w),ρs (κs2 w),.int .i64 (j : Int),.int .u64 x,ςs b len cap,.func (.func 87) #[] #[ρs (κs3 w)],.int .i64 (j : Int),.int .u64 x,ςs b len cap,.int .i64 (j : Int),.int .u64 x,undef,undef,undef,undef,undef,undef,undef,undef,undef],defers := [] } (W.drew) := by
      rw [← hR]
      dsimp only [ρs,ςs,κs0,κs1,κs2,κs3]
      refine wpAnyIn_ready (rs := [3,5]) (by kernel_rfl) (by simp) ?_
      refine AllReadyIn.cons rfl (fun K hK => ?_) ?_
      · go_simp
        exact hK _ _ (Uu _ _ _ _ (H6))
      refine AllReadyIn.cons rfl (fun K hK => ?_) ?_
      · go_simp
        exact hK _ _ (Uu _ _ _ _ (H7))
      exact AllReadyIn.nil
    have H9 : R 5 #[Is,Is,Os,Is,Os,Is,Os,Os,Os] { tmps := #[ςs b len cap,.int .i64 s,ρs (κs0 w),ρs (κs1 w),ρs (κs2 w),.int .i64 (j : Int),.int .u64 x,ςs b len cap,.func (.func 87) #[] #[ρs (κs3 w)],.int .i64 (j : Int),.int .u64 x,ςs b len cap,.int .i64 (j : Int),undef,.int .i64 s,undef,.int .u64 c,undef,undef,undef,undef,undef,undef],defers := [] } (W.drew) := by
      rw [← hR]
      dsimp only [ρs,ςs,κs0,κs1,κs2,κs3]
      refine wpAnyIn_ready (rs := [2]) (by kernel_rfl) (by simp) ?_
      refine AllReadyIn.cons rfl (fun K hK => ?_) ?_
      · go_simp
        exact hK _ _ (Uu _ _ _ _ (H5))
      exact AllReadyIn.nil
    have H10 : R 6 #[Is,Is,Os,Is,Os,Os,Os,Os,Os] { tmps := #[ςs b len cap,.int .i64 s,ρs (κs0 w),ρs (κs1 w),ρs (κs2 w),.int .i64 (j : Int),.int .u64 x,ςs b len cap,.func (.func 87) #[] #[ρs (κs3 w)],.int .i64 (j : Int),.int .u64 x,ςs b len cap,.int .i64 (j : Int),undef,.int .i64 s,undef,undef,undef,undef,undef,undef,undef,undef],defers := [] } (W.drew) := by
      rw [← hR]
      dsimp only [ρs,ςs,κs0,κs1,κs2,κs3]
      refine wpAnyIn_ready (rs := [2,5]) (by kernel_rfl) (by simp) ?_
      refine AllReadyIn.cons rfl (fun K hK => ?_) ?_
      · go_simp
        exact hK _ _ (Uu _ _ _ _ (H6))
      refine AllReadyIn.cons rfl (fun K hK => ?_) ?_
      · go_simp
        exact hK _ _ (Uu _ _ _ _ (H9))
      exact AllReadyIn.nil
    have H11 : R 6 #[Is,Is,Os,Os,Os,Is,Os,Os,Os] { tmps := #[ςs b len cap,.int .i64 s,ρs (κs0 w),ρs (κs1 w),ρs (κs2 w),.int .i64 (j : Int),.int .u64 x,ςs b len cap,.func (.func 87) #[] #[ρs (κs3 w)],.int .i64 (j : Int),.int .u64 x,ςs b len cap,.int .i64 (j : Int),undef,undef,undef,.int .u64 c,undef,undef,undef,undef,undef,undef],defers := [] } (W.drew) := by
      rw [← hR]
      dsimp only [ρs,ςs,κs0,κs1,κs2,κs3]
      refine wpAnyIn_ready (rs := [2,3]) (by kernel_rfl) (by simp) ?_
      refine AllReadyIn.cons rfl (fun K hK => ?_) ?_
      · go_simp
        exact hK _ _ (Uu _ _ _ _ (H7))
      refine AllReadyIn.cons rfl (fun K hK => ?_) ?_
      · go_simp
        exact hK _ _ (Uu _ _ _ _ (H9))
      exact AllReadyIn.nil
    have H12 : R 7 #[Is,Is,Os,Os,Os,Os,Os,Os,Os] { tmps := #[ςs b len cap,.int .i64 s,ρs (κs0 w),ρs (κs1 w),ρs (κs2 w),.int .i64 (j : Int),.int .u64 x,ςs b len cap,.func (.func 87) #[] #[ρs (κs3 w)],.int .i64 (j : Int),.int .u64 x,ςs b len cap,.int .i64 (j : Int),undef,undef,undef,undef,undef,undef,undef,undef,undef,undef],defers := [] } (W.drew) := by
      rw [← hR]
      dsimp only [ρs,ςs,κs0,κs1,κs2,κs3]
      refine wpAnyIn_ready (rs := [2,3,5]) (by kernel_rfl) (by simp) ?_
      refine AllReadyIn.cons rfl (fun K hK => ?_) ?_
      · go_simp
        exact hK _ _ (Uu _ _ _ _ (H8))
      refine AllReadyIn.cons rfl (fun K hK => ?_) ?_
      · go_simp
        exact hK _ _ (Uu _ _ _ _ (H10))
      refine AllReadyIn.cons rfl (fun K hK => ?_) ?_
      · go_simp
        exact hK _ _ (Uu _ _ _ _ (H11))
      exact AllReadyIn.nil
    have H13 : R 3 #[Is,Os,Is,Is,Is,Is,Is,Os,Os] { tmps := #[ςs b len cap,.int .i64 s,ρs (κs0 w),ρs (κs1 w),ρs (κs2 w),.int .i64 (j : Int),.int .u64 x,ςs b len cap,.func (.func 87) #[] #[ρs (κs3 w)],.int .i64 (j : Int),.int .u64 x,ςs b len cap,undef,.int .u64 x,.int .i64 s,.int .u64 (x / 2 ^ s),.int .u64 c,.int .u64 Y,undef,undef,undef,undef,undef],defers := [] } (W.drew) := by
      rw [← hR]
      dsimp only [ρs,ςs,κs0,κs1,κs2,κs3]
      refine wpAnyIn_ready (rs := [1]) (by kernel_rfl) (by simp) ?_
      refine AllReadyIn.cons rfl (fun K hK => ?_) ?_
      · go_simp
        exact hK _ _ (Uu _ _ _ _ (H2))
      exact AllReadyIn.nil
    have H14 : R 4 #[Is,Os,Is,Is,Is,Is,Os,Os,Os] { tmps := #[ςs b len cap,.int .i64 s,ρs (κs0 w),ρs (κs1 w),ρs (κs2 w),.int .i64 (j : Int),.int .u64 x,ςs b len cap,.func (.func 87) #[] #[ρs (κs3 w)],.int .i64 (j : Int),.int .u64 x,ςs b len cap,undef,.int .u64 x,.int .i64 s,.int .u64 (x / 2 ^ s),.int .u64 c,undef,undef,undef,undef,undef,undef],defers := [] } (W.drew) := by
      rw [← hR]
      dsimp only [ρs,ςs,κs0,κs1,κs2,κs3]
      refine wpAnyIn_ready (rs := [1,6]) (by kernel_rfl) (by simp) ?_
      refine AllReadyIn.cons rfl (fun K hK => ?_) ?_
      · go_simp
        exact hK _ _ (Uu _ _ _ _ (H3))
      refine AllReadyIn.cons rfl (fun K hK => ?_) ?_
      · go_simp
        exact hK _ _ (Uu _ _ _ _ (H13))
      exact AllReadyIn.nil
    have H15 : R 5 #[Is,Os,Is,Is,Is,Os,Os,Os,Os] { tmps := #[ςs b len cap,.int .i64 s,ρs (κs0 w),ρs (κs1 w),ρs (κs2 w),.int .i64 (j : Int),.int .u64 x,ςs b len cap,.func (.func 87) #[] #[ρs (κs3 w)],.int .i64 (j : Int),.int .u64 x,ςs b len cap,undef,.int .u64 x,.int .i64 s,.int .u64 (x / 2 ^ s),undef,undef,undef,undef,undef,undef,undef],defers := [] } (W.drew) := by
      rw [← hR]
      dsimp only [ρs,ςs,κs0,κs1,κs2,κs3]
      refine wpAnyIn_ready (rs := [1,5]) (by kernel_rfl) (by simp) ?_
      refine AllReadyIn.cons rfl (fun K hK => ?_) ?_
      · go_simp
        exact hK _ _ (Uu _ _ _ _ (H4))
      refine AllReadyIn.cons rfl (fun K hK => ?_) ?_
      · go_simp
        exact hK _ _ (Uu _ _ _ _ (H14))
      exact AllReadyIn.nil
    have H16 : R 5 #[Is,Os,Is,Is,Os,Is,Os,Os,Os] { tmps := #[ςs b len cap,.int .i64 s,ρs (κs0 w),ρs (κs1 w),ρs (κs2 w),.int .i64 (j : Int),.int .u64 x,ςs b len cap,.func (.func 87) #[] #[ρs (κs3 w)],.int .i64 (j : Int),.int .u64 x,ςs b len cap,undef,.int .u64 x,.int .i64 s,undef,.int .u64 c,undef,undef,undef,undef,undef,undef],defers := [] } (W.drew) := by
      rw [← hR]
      dsimp only [ρs,ςs,κs0,κs1,κs2,κs3]
      refine wpAnyIn_ready (rs := [1,4]) (by kernel_rfl) (by simp) ?_
      refine AllReadyIn.cons rfl (fun K hK => ?_) ?_
      · go_simp
        exact hK _ _ (Uu _ _ _ _ (H5))
      refine AllReadyIn.cons rfl (fun K hK => ?_) ?_
      · go_simp
        exact hK _ _ (Uu _ _ _ _ (H14))
      exact AllReadyIn.nil
    have H17 : R 6 #[Is,Os,Is,Is,Os,Os,Os,Os,Os] { tmps := #[ςs b len cap,.int .i64 s,ρs (κs0 w),ρs (κs1 w),ρs (κs2 w),.int .i64 (j : Int),.int .u64 x,ςs b len cap,.func (.func 87) #[] #[ρs (κs3 w)],.int .i64 (j : Int),.int .u64 x,ςs b len cap,undef,.int .u64 x,.int .i64 s,undef,undef,undef,undef,undef,undef,undef,undef],defers := [] } (W.drew) := by
      rw [← hR]
      dsimp only [ρs,ςs,κs0,κs1,κs2,κs3]
      refine wpAnyIn_ready (rs := [1,4,5]) (by kernel_rfl) (by simp) ?_
      refine AllReadyIn.cons rfl (fun K hK => ?_) ?_
      · go_simp
        exact hK _ _ (Uu _ _ _ _ (H6))
      refine AllReadyIn.cons rfl (fun K hK => ?_) ?_
      · go_simp
        exact hK _ _ (Uu _ _ _ _ (H15))
      refine AllReadyIn.cons rfl (fun K hK => ?_) ?_
      · go_simp
        exact hK _ _ (Uu _ _ _ _ (H16))
      exact AllReadyIn.nil
    have H18 : R 6 #[Is,Os,Is,Os,Os,Is,Os,Os,Os] { tmps := #[ςs b len cap,.int .i64 s,ρs (κs0 w),ρs (κs1 w),ρs (κs2 w),.int .i64 (j : Int),.int .u64 x,ςs b len cap,.func (.func 87) #[] #[ρs (κs3 w)],.int .i64 (j : Int),.int .u64 x,ςs b len cap,undef,.int .u64 x,undef,undef,.int .u64 c,undef,undef,undef,undef,undef,undef],defers := [] } (W.drew) := by
      rw [← hR]
      dsimp only [ρs,ςs,κs0,κs1,κs2,κs3]
      refine wpAnyIn_ready (rs := [1,3]) (by kernel_rfl) (by simp) ?_
      refine AllReadyIn.cons rfl (fun K hK => ?_) ?_
      · go_simp
        exact hK _ _ (Uu _ _ _ _ (H7))
      refine AllReadyIn.cons rfl (fun K hK => ?_) ?_
      · go_simp
        exact hK _ _ (Uu _ _ _ _ (H16))
      exact AllReadyIn.nil
    have H19 : R 7 #[Is,Os,Is,Os,Os,Os,Os,Os,Os] { tmps := #[ςs b len cap,.int .i64 s,ρs (κs0 w),ρs (κs1 w),ρs (κs2 w),.int .i64 (j : Int),.int .u64 x,ςs b len cap,.func (.func 87) #[] #[ρs (κs3 w)],.int .i64 (j : Int),.int .u64 x,ςs b len cap,undef,.int .u64 x,undef,undef,undef,undef,undef,undef,undef,undef,undef],defers := [] } (W.drew) := by
      rw [← hR]
      dsimp only [ρs,ςs,κs0,κs1,κs2,κs3]
      refine wpAnyIn_ready (rs := [1,3,5]) (by kernel_rfl) (by simp) ?_
      refine AllReadyIn.cons rfl (fun K hK => ?_) ?_
      · go_simp
        exact hK _ _ (Uu _ _ _ _ (H8))
      refine AllReadyIn.cons rfl (fun K hK => ?_) ?_
      · go_simp
        exact hK _ _ (Uu _ _ _ _ (H17))
      refine AllReadyIn.cons rfl (fun K hK => ?_) ?_
      · go_simp
        exact hK _ _ (Uu _ _ _ _ (H18))
      exact AllReadyIn.nil
    have H20 : R 6 #[Is,Os,Os,Is,Os,Is,Os,Os,Os] { tmps := #[ςs b len cap,.int .i64 s,ρs (κs0 w),ρs (κs1 w),ρs (κs2 w),.int .i64 (j : Int),.int .u64 x,ςs b len cap,.func (.func 87) #[] #[ρs (κs3 w)],.int .i64 (j : Int),.int .u64 x,ςs b len cap,undef,undef,.int .i64 s,undef,.int .u64 c,undef,undef,undef,undef,undef,undef],defers := [] } (W.drew) := by
      rw [← hR]
      dsimp only [ρs,ςs,κs0,κs1,κs2,κs3]
      refine wpAnyIn_ready (rs := [1,2]) (by kernel_rfl) (by simp) ?_
      refine AllReadyIn.cons rfl (fun K hK => ?_) ?_
      · go_simp
        exact hK _ _ (Uu _ _ _ _ (H9))
      refine AllReadyIn.cons rfl (fun K hK => ?_) ?_
      · go_simp
        exact hK _ _ (Uu _ _ _ _ (H16))
      exact AllReadyIn.nil
    have H21 : R 7 #[Is,Os,Os,Is,Os,Os,Os,Os,Os] { tmps := #[ςs b len cap,.int .i64 s,ρs (κs0 w),ρs (κs1 w),ρs (κs2 w),.int .i64 (j : Int),.int .u64 x,ςs b len cap,.func (.func 87) #[] #[ρs (κs3 w)],.int .i64 (j : Int),.int .u64 x,ςs b len cap,undef,undef,.int .i64 s,undef,undef,undef,undef,undef,undef,undef,undef],defers := [] } (W.drew) := by
      rw [← hR]
      dsimp only [ρs,ςs,κs0,κs1,κs2,κs3]
      refine wpAnyIn_ready (rs := [1,2,5]) (by kernel_rfl) (by simp) ?_
      refine AllReadyIn.cons rfl (fun K hK => ?_) ?_
      · go_simp
        exact hK _ _ (Uu _ _ _ _ (H10))
      refine AllReadyIn.cons rfl (fun K hK => ?_) ?_
      · go_simp
        exact hK _ _ (Uu _ _ _ _ (H17))
      refine AllReadyIn.cons rfl (fun K hK => ?_) ?_
      · go_simp
        exact hK _ _ (Uu _ _ _ _ (H20))
      exact AllReadyIn.nil
    have H22 : R 7 #[Is,Os,Os,Os,Os,Is,Os,Os,Os] { tmps := #[ςs b len cap,.int .i64 s,ρs (κs0 w),ρs (κs1 w),ρs (κs2 w),.int .i64 (j : Int),.int .u64 x,ςs b len cap,.func (.func 87) #[] #[ρs (κs3 w)],.int .i64 (j : Int),.int .u64 x,ςs b len cap,undef,undef,undef,undef,.int .u64 c,undef,undef,undef,undef,undef,undef],defers := [] } (W.drew) := by
      rw [← hR]
      dsimp only [ρs,ςs,κs0,κs1,κs2,κs3]
      refine wpAnyIn_ready (rs := [1,2,3]) (by kernel_rfl) (by simp) ?_
      refine AllReadyIn.cons rfl (fun K hK => ?_) ?_
      · go_simp
        exact hK _ _ (Uu _ _ _ _ (H11))
      refine AllReadyIn.cons rfl (fun K hK => ?_) ?_
      · go_simp
        exact hK _ _ (Uu _ _ _ _ (H18))
      refine AllReadyIn.cons rfl (fun K hK => ?_) ?_
      · go_simp
        exact hK _ _ (Uu _ _ _ _ (H20))
      exact AllReadyIn.nil
    have H23 : R 8 #[Is,Os,Os,Os,Os,Os,Os,Os,Os] { tmps := #[ςs b len cap,.int .i64 s,ρs (κs0 w),ρs (κs1 w),ρs (κs2 w),.int .i64 (j : Int),.int .u64 x,ςs b len cap,.func (.func 87) #[] #[ρs (κs3 w)],.int .i64 (j : Int),.int .u64 x,ςs b len cap,undef,undef,undef,undef,undef,undef,undef,undef,undef,undef,undef],defers := [] } (W.drew) := by
      rw [← hR]
      dsimp only [ρs,ςs,κs0,κs1,κs2,κs3]
      refine wpAnyIn_ready (rs := [1,2,3,5]) (by kernel_rfl) (by simp) ?_
      refine AllReadyIn.cons rfl (fun K hK => ?_) ?_
      · go_simp
        exact hK _ _ (Uu _ _ _ _ (H12))
      refine AllReadyIn.cons rfl (fun K hK => ?_) ?_
      · go_simp
        exact hK _ _ (Uu _ _ _ _ (H19))
      refine AllReadyIn.cons rfl (fun K hK => ?_) ?_
      · go_simp
        exact hK _ _ (Uu _ _ _ _ (H21))
      refine AllReadyIn.cons rfl (fun K hK => ?_) ?_
      · go_simp
        exact hK _ _ (Uu _ _ _ _ (H22))
      exact AllReadyIn.nil
    have H24 : R 3 #[Os,Is,Is,Is,Is,Is,Is,Os,Os] { tmps := #[ςs b len cap,.int .i64 s,ρs (κs0 w),ρs (κs1 w),ρs (κs2 w),.int .i64 (j : Int),.int .u64 x,ςs b len cap,.func (.func 87) #[] #[ρs (κs3 w)],.int .i64 (j : Int),.int .u64 x,undef,.int .i64 (j : Int),.int .u64 x,.int .i64 s,.int .u64 (x / 2 ^ s),.int .u64 c,.int .u64 Y,undef,undef,undef,undef,undef],defers := [] } (W.drew) := by
      rw [← hR]
      dsimp only [ρs,ςs,κs0,κs1,κs2,κs3]
      refine wpAnyIn_ready (rs := [0]) (by kernel_rfl) (by simp) ?_
      refine AllReadyIn.cons rfl (fun K hK => ?_) ?_
      · go_simp
        exact hK _ _ (Uu _ _ _ _ (H2))
      exact AllReadyIn.nil
    have H25 : R 4 #[Os,Is,Is,Is,Is,Is,Os,Os,Os] { tmps := #[ςs b len cap,.int .i64 s,ρs (κs0 w),ρs (κs1 w),ρs (κs2 w),.int .i64 (j : Int),.int .u64 x,ςs b len cap,.func (.func 87) #[] #[ρs (κs3 w)],.int .i64 (j : Int),.int .u64 x,undef,.int .i64 (j : Int),.int .u64 x,.int .i64 s,.int .u64 (x / 2 ^ s),.int .u64 c,undef,undef,undef,undef,undef,undef],defers := [] } (W.drew) := by
      rw [← hR]
      dsimp only [ρs,ςs,κs0,κs1,κs2,κs3]
      refine wpAnyIn_ready (rs := [0,6]) (by kernel_rfl) (by simp) ?_
      refine AllReadyIn.cons rfl (fun K hK => ?_) ?_
      · go_simp
        exact hK _ _ (Uu _ _ _ _ (H3))
      refine AllReadyIn.cons rfl (fun K hK => ?_) ?_
      · go_simp
        exact hK _ _ (Uu _ _ _ _ (H24))
      exact AllReadyIn.nil
    have H26 : R 5 #[Os,Is,Is,Is,Is,Os,Os,Os,Os] { tmps := #[ςs b len cap,.int .i64 s,ρs (κs0 w),ρs (κs1 w),ρs (κs2 w),.int .i64 (j : Int),.int .u64 x,ςs b len cap,.func (.func 87) #[] #[ρs (κs3 w)],.int .i64 (j : Int),.int .u64 x,undef,.int .i64 (j : Int),.int .u64 x,.int .i64 s,.int .u64 (x / 2 ^ s),undef,undef,undef,undef,undef,undef,undef],defers := [] } (W.drew) := by
      rw [← hR]
      dsimp only [ρs,ςs,κs0,κs1,κs2,κs3]
      refine wpAnyIn_ready (rs := [0,5]) (by kernel_rfl) (by simp) ?_
      refine AllReadyIn.cons rfl (fun K hK => ?_) ?_
      · go_simp
        exact hK _ _ (Uu _ _ _ _ (H4))
      refine AllReadyIn.cons rfl (fun K hK => ?_) ?_
      · go_simp
        exact hK _ _ (Uu _ _ _ _ (H25))
      exact AllReadyIn.nil
    have H27 : R 5 #[Os,Is,Is,Is,Os,Is,Os,Os,Os] { tmps := #[ςs b len cap,.int .i64 s,ρs (κs0 w),ρs (κs1 w),ρs (κs2 w),.int .i64 (j : Int),.int .u64 x,ςs b len cap,.func (.func 87) #[] #[ρs (κs3 w)],.int .i64 (j : Int),.int .u64 x,undef,.int .i64 (j : Int),.int .u64 x,.int .i64 s,undef,.int .u64 c,undef,undef,undef,undef,undef,undef],defers := [] } (W.drew) := by
      rw [← hR]
      dsimp only [ρs,ςs,κs0,κs1,κs2,κs3]
      refine wpAnyIn_ready (rs := [0,4]) (by kernel_rfl) (by simp) ?_
      refine AllReadyIn.cons rfl (fun K hK => ?_) ?_
      · go_simp
        exact hK _ _ (Uu _ _ _ _ (H5))
      refine AllReadyIn.cons rfl (fun K hK => ?_) ?_
      · go_simp
        exact hK _ _ (Uu _ _ _ _ (H25))
      exact AllReadyIn.nil
    have H28 : R 6 #[Os,Is,Is,Is,Os,Os,Os,Os,Os] { tmps := #[ςs b len cap,.int .i64 s,ρs (κs0 w),ρs (κs1 w),ρs (κs2 w),.int .i64 (j : Int),.int .u64 x,ςs b len cap,.func (.func 87) #[] #[ρs (κs3 w)],.int .i64 (j : Int),.int .u64 x,undef,.int .i64 (j : Int),.int .u64 x,.int .i64 s,undef,undef,undef,undef,undef,undef,undef,undef],defers := [] } (W.drew) := by
      rw [← hR]
      dsimp only [ρs,ςs,κs0,κs1,κs2,κs3]
      refine wpAnyIn_ready (rs := [0,4,5]) (by kernel_rfl) (by simp) ?_
      refine AllReadyIn.cons rfl (fun K hK => ?_) ?_
      · go_simp
        exact hK _ _ (Uu _ _ _ _ (H6))
      refine AllReadyIn.cons rfl (fun K hK => ?_) ?_
      · go_simp
        exact hK _ _ (Uu _ _ _ _ (H26))
      refine AllReadyIn.cons rfl (fun K hK => ?_) ?_
      · go_simp
        exact hK _ _ (Uu _ _ _ _ (H27))
      exact AllReadyIn.nil
    have H29 : R 6 #[Os,Is,Is,Os,Os,Is,Os,Os,Os] { tmps := #[ςs b len cap,.int .i64 s,ρs (κs0 w),ρs (κs1 w),ρs (κs2 w),.int .i64 (j : Int),.int .u64 x,ςs b len cap,.func (.func 87) #[] #[ρs (κs3 w)],.int .i64 (j : Int),.int .u64 x,undef,.int .i64 (j : Int),.int .u64 x,undef,undef,.int .u64 c,undef,undef,undef,undef,undef,undef],defers := [] } (W.drew) := by
      rw [← hR]
      dsimp only [ρs,ςs,κs0,κs1,κs2,κs3]
      refine wpAnyIn_ready (rs := [0,3]) (by kernel_rfl) (by simp) ?_
      refine AllReadyIn.cons rfl (fun K hK => ?_) ?_
      · go_simp
        exact hK _ _ (Uu _ _ _ _ (H7))
      refine AllReadyIn.cons rfl (fun K hK => ?_) ?_
      · go_simp
        exact hK _ _ (Uu _ _ _ _ (H27))
      exact AllReadyIn.nil
    have H30 : R 7 #[Os,Is,Is,Os,Os,Os,Os,Os,Os] { tmps := #[ςs b len cap,.int .i64 s,ρs (κs0 w),ρs (κs1 w),ρs (κs2 w),.int .i64 (j : Int),.int .u64 x,ςs b len cap,.func (.func 87) #[] #[ρs (κs3 w)],.int .i64 (j : Int),.int .u64 x,undef,.int .i64 (j : Int),.int .u64 x,undef,undef,undef,undef,undef,undef,undef,undef,undef],defers := [] } (W.drew) := by
      rw [← hR]
      dsimp only [ρs,ςs,κs0,κs1,κs2,κs3]
      refine wpAnyIn_ready (rs := [0,3,5]) (by kernel_rfl) (by simp) ?_
      refine AllReadyIn.cons rfl (fun K hK => ?_) ?_
      · go_simp
        exact hK _ _ (Uu _ _ _ _ (H8))
      refine AllReadyIn.cons rfl (fun K hK => ?_) ?_
      · go_simp
        exact hK _ _ (Uu _ _ _ _ (H28))
      refine AllReadyIn.cons rfl (fun K hK => ?_) ?_
      · go_simp
        exact hK _ _ (Uu _ _ _ _ (H29))
      exact AllReadyIn.nil
    have H31 : R 6 #[Os,Is,Os,Is,Os,Is,Os,Os,Os] { tmps := #[ςs b len cap,.int .i64 s,ρs (κs0 w),ρs (κs1 w),ρs (κs2 w),.int .i64 (j : Int),.int .u64 x,ςs b len cap,.func (.func 87) #[] #[ρs (κs3 w)],.int .i64 (j : Int),.int .u64 x,undef,.int .i64 (j : Int),undef,.int .i64 s,undef,.int .u64 c,undef,undef,undef,undef,undef,undef],defers := [] } (W.drew) := by
      rw [← hR]
      dsimp only [ρs,ςs,κs0,κs1,κs2,κs3]
      refine wpAnyIn_ready (rs := [0,2]) (by kernel_rfl) (by simp) ?_
      refine AllReadyIn.cons rfl (fun K hK => ?_) ?_
      · go_simp
        exact hK _ _ (Uu _ _ _ _ (H9))
      refine AllReadyIn.cons rfl (fun K hK => ?_) ?_
      · go_simp
        exact hK _ _ (Uu _ _ _ _ (H27))
      exact AllReadyIn.nil
    have H32 : R 7 #[Os,Is,Os,Is,Os,Os,Os,Os,Os] { tmps := #[ςs b len cap,.int .i64 s,ρs (κs0 w),ρs (κs1 w),ρs (κs2 w),.int .i64 (j : Int),.int .u64 x,ςs b len cap,.func (.func 87) #[] #[ρs (κs3 w)],.int .i64 (j : Int),.int .u64 x,undef,.int .i64 (j : Int),undef,.int .i64 s,undef,undef,undef,undef,undef,undef,undef,undef],defers := [] } (W.drew) := by
      rw [← hR]
      dsimp only [ρs,ςs,κs0,κs1,κs2,κs3]
      refine wpAnyIn_ready (rs := [0,2,5]) (by kernel_rfl) (by simp) ?_
      refine AllReadyIn.cons rfl (fun K hK => ?_) ?_
      · go_simp
        exact hK _ _ (Uu _ _ _ _ (H10))
      refine AllReadyIn.cons rfl (fun K hK => ?_) ?_
      · go_simp
        exact hK _ _ (Uu _ _ _ _ (H28))
      refine AllReadyIn.cons rfl (fun K hK => ?_) ?_
      · go_simp
        exact hK _ _ (Uu _ _ _ _ (H31))
      exact AllReadyIn.nil
    have H33 : R 7 #[Os,Is,Os,Os,Os,Is,Os,Os,Os] { tmps := #[ςs b len cap,.int .i64 s,ρs (κs0 w),ρs (κs1 w),ρs (κs2 w),.int .i64 (j : Int),.int .u64 x,ςs b len cap,.func (.func 87) #[] #[ρs (κs3 w)],.int .i64 (j : Int),.int .u64 x,undef,.int .i64 (j : Int),undef,undef,undef,.int .u64 c,undef,undef,undef,undef,undef,undef],defers := [] } (W.drew) := by
      rw [← hR]
      dsimp only [ρs,ςs,κs0,κs1,κs2,κs3]
      refine wpAnyIn_ready (rs := [0,2,3]) (by kernel_rfl) (by simp) ?_
      refine AllReadyIn.cons rfl (fun K hK => ?_) ?_
      · go_simp
        exact hK _ _ (Uu _ _ _ _ (H11))
      refine AllReadyIn.cons rfl (fun K hK => ?_) ?_
      · go_simp
        exact hK _ _ (Uu _ _ _ _ (H29))
      refine AllReadyIn.cons rfl (fun K hK => ?_) ?_
      · go_simp
        exact hK _ _ (Uu _ _ _ _ (H31))
      exact AllReadyIn.nil
    have H34 : R 8 #[Os,Is,Os,Os,Os,Os,Os,Os,Os] { tmps := #[ςs b len cap,.int .i64 s,ρs (κs0 w),ρs (κs1 w),ρs (κs2 w),.int .i64 (j : Int),.int .u64 x,ςs b len cap,.func (.func 87) #[] #[ρs (κs3 w)],.int .i64 (j : Int),.int .u64 x,undef,.int .i64 (j : Int),undef,undef,undef,undef,undef,undef,undef,undef,undef,undef],defers := [] } (W.drew) := by
      rw [← hR]
      dsimp only [ρs,ςs,κs0,κs1,κs2,κs3]
      refine wpAnyIn_ready (rs := [0,2,3,5]) (by kernel_rfl) (by simp) ?_
      refine AllReadyIn.cons rfl (fun K hK => ?_) ?_
      · go_simp
        exact hK _ _ (Uu _ _ _ _ (H12))
      refine AllReadyIn.cons rfl (fun K hK => ?_) ?_
      · go_simp
        exact hK _ _ (Uu _ _ _ _ (H30))
      refine AllReadyIn.cons rfl (fun K hK => ?_) ?_
      · go_simp
        exact hK _ _ (Uu _ _ _ _ (H32))
      refine AllReadyIn.cons rfl (fun K hK => ?_) ?_
      · go_simp
        exact hK _ _ (Uu _ _ _ _ (H33))
      exact AllReadyIn.nil
    have H35 : R 4 #[Os,Os,Is,Is,Is,Is,Is,Os,Os] { tmps := #[ςs b len cap,.int .i64 s,ρs (κs0 w),ρs (κs1 w),ρs (κs2 w),.int .i64 (j : Int),.int .u64 x,ςs b len cap,.func (.func 87) #[] #[ρs (κs3 w)],.int .i64 (j : Int),.int .u64 x,undef,undef,.int .u64 x,.int .i64 s,.int .u64 (x / 2 ^ s),.int .u64 c,.int .u64 Y,undef,undef,undef,undef,undef],defers := [] } (W.drew) := by
      rw [← hR]
      dsimp only [ρs,ςs,κs0,κs1,κs2,κs3]
      refine wpAnyIn_ready (rs := [0,1]) (by kernel_rfl) (by simp) ?_
      refine AllReadyIn.cons rfl (fun K hK => ?_) ?_
      · go_simp
        exact hK _ _ (Uu _ _ _ _ (H13))
      refine AllReadyIn.cons rfl (fun K hK => ?_) ?_
      · go_simp
        exact hK _ _ (Uu _ _ _ _ (H24))
      exact AllReadyIn.nil
    have H36 : R 5 #[Os,Os,Is,Is,Is,Is,Os,Os,Os] { tmps := #[ςs b len cap,.int .i64 s,ρs (κs0 w),ρs (κs1 w),ρs (κs2 w),.int .i64 (j : Int),.int .u64 x,ςs b len cap,.func (.func 87) #[] #[ρs (κs3 w)],.int .i64 (j : Int),.int .u64 x,undef,undef,.int .u64 x,.int .i64 s,.int .u64 (x / 2 ^ s),.int .u64 c,undef,undef,undef,undef,undef,undef],defers := [] } (W.drew) := by
      rw [← hR]
      dsimp only [ρs,ςs,κs0,κs1,κs2,κs3]
      refine wpAnyIn_ready (rs := [0,1,6]) (by kernel_rfl) (by simp) ?_
      refine AllReadyIn.cons rfl (fun K hK => ?_) ?_
      · go_simp
        exact hK _ _ (Uu _ _ _ _ (H14))
      refine AllReadyIn.cons rfl (fun K hK => ?_) ?_
      · go_simp
        exact hK _ _ (Uu _ _ _ _ (H25))
      refine AllReadyIn.cons rfl (fun K hK => ?_) ?_
      · go_simp
        exact hK _ _ (Uu _ _ _ _ (H35))
      exact AllReadyIn.nil
    have H37 : R 6 #[Os,Os,Is,Is,Is,Os,Os,Os,Os] { tmps := #[ςs b len cap,.int .i64 s,ρs (κs0 w),ρs (κs1 w),ρs (κs2 w),.int .i64 (j : Int),.int .u64 x,ςs b len cap,.func (.func 87) #[] #[ρs (κs3 w)],.int .i64 (j : Int),.int .u64 x,undef,undef,.int .u64 x,.int .i64 s,.int .u64 (x / 2 ^ s),undef,undef,undef,undef,undef,undef,undef],defers := [] } (W.drew) := by
      rw [← hR]
      dsimp only [ρs,ςs,κs0,κs1,κs2,κs3]
      refine wpAnyIn_ready (rs := [0,1,5]) (by kernel_rfl) (by simp) ?_
      refine AllReadyIn.cons rfl (fun K hK => ?_) ?_
      · go_simp
        exact hK _ _ (Uu _ _ _ _ (H15))
      refine AllReadyIn.cons rfl (fun K hK => ?_) ?_
      · go_simp
        exact hK _ _ (Uu _ _ _ _ (H26))
      refine AllReadyIn.cons rfl (fun K hK => ?_) ?_
      · go_simp
        exact hK _ _ (Uu _ _ _ _ (H36))
      exact AllReadyIn.nil
    have H38 : R 6 #[Os,Os,Is,Is,Os,Is,Os,Os,Os] { tmps := #[ςs b len cap,.int .i64 s,ρs (κs0 w),ρs (κs1 w),ρs (κs2 w),.int .i64 (j : Int),.int .u64 x,ςs b len cap,.func (.func 87) #[] #[ρs (κs3 w)],.int .i64 (j : Int),.int .u64 x,undef,undef,.int .u64 x,.int .i64 s,undef,.int .u64 c,undef,undef,undef,undef,undef,undef],defers := [] } (W.drew) := by
      rw [← hR]
      dsimp only [ρs,ςs,κs0,κs1,κs2,κs3]
      refine wpAnyIn_ready (rs := [0,1,4]) (by kernel_rfl) (by simp) ?_
      refine AllReadyIn.cons rfl (fun K hK => ?_) ?_
      · go_simp
        exact hK _ _ (Uu _ _ _ _ (H16))
      refine AllReadyIn.cons rfl (fun K hK => ?_) ?_
      · go_simp
        exact hK _ _ (Uu _ _ _ _ (H27))
      refine AllReadyIn.cons rfl (fun K hK => ?_) ?_
      · go_simp
        exact hK _ _ (Uu _ _ _ _ (H36))
      exact AllReadyIn.nil
    have H39 : R 7 #[Os,Os,Is,Is,Os,Os,Os,Os,Os] { tmps := #[ςs b len cap,.int .i64 s,ρs (κs0 w),ρs (κs1 w),ρs (κs2 w),.int .i64 (j : Int),.int .u64 x,ςs b len cap,.func (.func 87) #[] #[ρs (κs3 w)],.int .i64 (j : Int),.int .u64 x,undef,undef,.int .u64 x,.int .i64 s,undef,undef,undef,undef,undef,undef,undef,undef],defers := [] } (W.drew) := by
      rw [← hR]
      dsimp only [ρs,ςs,κs0,κs1,κs2,κs3]
      refine wpAnyIn_ready (rs := [0,1,4,5]) (by kernel_rfl) (by simp) ?_
      refine AllReadyIn.cons rfl (fun K hK => ?_) ?_
      · go_simp
        exact hK _ _ (Uu _ _ _ _ (H17))
      refine AllReadyIn.cons rfl (fun K hK => ?_) ?_
      · go_simp
        exact hK _ _ (Uu _ _ _ _ (H28))
      refine AllReadyIn.cons rfl (fun K hK => ?_) ?_
      · go_simp
        exact hK _ _ (Uu _ _ _ _ (H37))
      refine AllReadyIn.cons rfl (fun K hK => ?_) ?_
      · go_simp
        exact hK _ _ (Uu _ _ _ _ (H38))
      exact AllReadyIn.nil
    have H40 : R 7 #[Os,Os,Is,Os,Os,Is,Os,Os,Os] { tmps := #[ςs b len cap,.int .i64 s,ρs (κs0 w),ρs (κs1 w),ρs (κs2 w),.int .i64 (j : Int),.int .u64 x,ςs b len cap,.func (.func 87) #[] #[ρs (κs3 w)],.int .i64 (j : Int),.int .u64 x,undef,undef,.int .u64 x,undef,undef,.int .u64 c,undef,undef,undef,undef,undef,undef],defers := [] } (W.drew) := by
      rw [← hR]
      dsimp only [ρs,ςs,κs0,κs1,κs2,κs3]
      refine wpAnyIn_ready (rs := [0,1,3]) (by kernel_rfl) (by simp) ?_
      refine AllReadyIn.cons rfl (fun K hK => ?_) ?_
      · go_simp
        exact hK _ _ (Uu _ _ _ _ (H18))
      refine AllReadyIn.cons rfl (fun K hK => ?_) ?_
      · go_simp
        exact hK _ _ (Uu _ _ _ _ (H29))
      refine AllReadyIn.cons rfl (fun K hK => ?_) ?_
      · go_simp
        exact hK _ _ (Uu _ _ _ _ (H38))
      exact AllReadyIn.nil
    have H41 : R 8 #[Os,Os,Is,Os,Os,Os,Os,Os,Os] { tmps := #[ςs b len cap,.int .i64 s,ρs (κs0 w),ρs (κs1 w),ρs (κs2 w),.int .i64 (j : Int),.int .u64 x,ςs b len cap,.func (.func 87) #[] #[ρs (κs3 w)],.int .i64 (j : Int),.int .u64 x,undef,undef,.int .u64 x,undef,undef,undef,undef,undef,undef,undef,undef,undef],defers := [] } (W.drew) := by
      rw [← hR]
      dsimp only [ρs,ςs,κs0,κs1,κs2,κs3]
      refine wpAnyIn_ready (rs := [0,1,3,5]) (by kernel_rfl) (by simp) ?_
      refine AllReadyIn.cons rfl (fun K hK => ?_) ?_
      · go_simp
        exact hK _ _ (Uu _ _ _ _ (H19))
      refine AllReadyIn.cons rfl (fun K hK => ?_) ?_
      · go_simp
        exact hK _ _ (Uu _ _ _ _ (H30))
      refine AllReadyIn.cons rfl (fun K hK => ?_) ?_
      · go_simp
        exact hK _ _ (Uu _ _ _ _ (H39))
      refine AllReadyIn.cons rfl (fun K hK => ?_) ?_
      · go_simp
        exact hK _ _ (Uu _ _ _ _ (H40))
      exact AllReadyIn.nil
    have H42 : R 7 #[Os,Os,Os,Is,Os,Is,Os,Os,Os] { tmps := #[ςs b len cap,.int .i64 s,ρs (κs0 w),ρs (κs1 w),ρs (κs2 w),.int .i64 (j : Int),.int .u64 x,ςs b len cap,.func (.func 87) #[] #[ρs (κs3 w)],.int .i64 (j : Int),.int .u64 x,undef,undef,undef,.int .i64 s,undef,.int .u64 c,undef,undef,undef,undef,undef,undef],defers := [] } (W.drew) := by
      rw [← hR]
      dsimp only [ρs,ςs,κs0,κs1,κs2,κs3]
      refine wpAnyIn_ready (rs := [0,1,2]) (by kernel_rfl) (by simp) ?_
      refine AllReadyIn.cons rfl (fun K hK => ?_) ?_
      · go_simp
        exact hK _ _ (Uu _ _ _ _ (H20))
      refine AllReadyIn.cons rfl (fun K hK => ?_) ?_
      · go_simp
        exact hK _ _ (Uu _ _ _ _ (H31))
      refine AllReadyIn.cons rfl (fun K hK => ?_) ?_
      · go_simp
        exact hK _ _ (Uu _ _ _ _ (H38))
      exact AllReadyIn.nil
    have H43 : R 8 #[Os,Os,Os,Is,Os,Os,Os,Os,Os] { tmps := #[ςs b len cap,.int .i64 s,ρs (κs0 w),ρs (κs1 w),ρs (κs2 w),.int .i64 (j : Int),.int .u64 x,ςs b len cap,.func (.func 87) #[] #[ρs (κs3 w)],.int .i64 (j : Int),.int .u64 x,undef,undef,undef,.int .i64 s,undef,undef,undef,undef,undef,undef,undef,undef],defers := [] } (W.drew) := by
      rw [← hR]
      dsimp only [ρs,ςs,κs0,κs1,κs2,κs3]
      refine wpAnyIn_ready (rs := [0,1,2,5]) (by kernel_rfl) (by simp) ?_
      refine AllReadyIn.cons rfl (fun K hK => ?_) ?_
      · go_simp
        exact hK _ _ (Uu _ _ _ _ (H21))
      refine AllReadyIn.cons rfl (fun K hK => ?_) ?_
      · go_simp
        exact hK _ _ (Uu _ _ _ _ (H32))
      refine AllReadyIn.cons rfl (fun K hK => ?_) ?_
      · go_simp
        exact hK _ _ (Uu _ _ _ _ (H39))
      refine AllReadyIn.cons rfl (fun K hK => ?_) ?_
      · go_simp
        exact hK _ _ (Uu _ _ _ _ (H42))
      exact AllReadyIn.nil
    have H44 : R 8 #[Os,Os,Os,Os,Os,Is,Os,Os,Os] { tmps := #[ςs b len cap,.int .i64 s,ρs (κs0 w),ρs (κs1 w),ρs (κs2 w),.int .i64 (j : Int),.int .u64 x,ςs b len cap,.func (.func 87) #[] #[ρs (κs3 w)],.int .i64 (j : Int),.int .u64 x,undef,undef,undef,undef,undef,.int .u64 c,undef,undef,undef,undef,undef,undef],defers := [] } (W.drew) := by
      rw [← hR]
      dsimp only [ρs,ςs,κs0,κs1,κs2,κs3]
      refine wpAnyIn_ready (rs := [0,1,2,3]) (by kernel_rfl) (by simp) ?_
      refine AllReadyIn.cons rfl (fun K hK => ?_) ?_
      · go_simp
        exact hK _ _ (Uu _ _ _ _ (H22))
      refine AllReadyIn.cons rfl (fun K hK => ?_) ?_
      · go_simp
        exact hK _ _ (Uu _ _ _ _ (H33))
      refine AllReadyIn.cons rfl (fun K hK => ?_) ?_
      · go_simp
        exact hK _ _ (Uu _ _ _ _ (H40))
      refine AllReadyIn.cons rfl (fun K hK => ?_) ?_
      · go_simp
        exact hK _ _ (Uu _ _ _ _ (H42))
      exact AllReadyIn.nil
    have H45 : R 9 #[Os,Os,Os,Os,Os,Os,Os,Os,Os] { tmps := #[ςs b len cap,.int .i64 s,ρs (κs0 w),ρs (κs1 w),ρs (κs2 w),.int .i64 (j : Int),.int .u64 x,ςs b len cap,.func (.func 87) #[] #[ρs (κs3 w)],.int .i64 (j : Int),.int .u64 x,undef,undef,undef,undef,undef,undef,undef,undef,undef,undef,undef,undef],defers := [] } (W.drew) := by
      rw [← hR]
      dsimp only [ρs,ςs,κs0,κs1,κs2,κs3]
      refine wpAnyIn_ready (rs := [0,1,2,3,5]) (by kernel_rfl) (by simp) ?_
      refine AllReadyIn.cons rfl (fun K hK => ?_) ?_
      · go_simp
        exact hK _ _ (Uu _ _ _ _ (H23))
      refine AllReadyIn.cons rfl (fun K hK => ?_) ?_
      · go_simp
        exact hK _ _ (Uu _ _ _ _ (H34))
      refine AllReadyIn.cons rfl (fun K hK => ?_) ?_
      · go_simp
        exact hK _ _ (Uu _ _ _ _ (H41))
      refine AllReadyIn.cons rfl (fun K hK => ?_) ?_
      · go_simp
        exact hK _ _ (Uu _ _ _ _ (H43))
      refine AllReadyIn.cons rfl (fun K hK => ?_) ?_
      · go_simp
        exact hK _ _ (Uu _ _ _ _ (H44))
      exact AllReadyIn.nil
    exact H45
  case done =>
    rintro D W hD ⟨⟨lk,c,hd,hak,hc⟩,h1,h2,h3,hg⟩ hK
    gi_wp2
    refine ⟨by simp,.inl ⟨_,_,rfl,run_takeDeferred hK,?_⟩⟩
    have hp := grownBy_putObj' W D (.deferred none)
    have hwd := hd.done
    refine ⟨.tuple #[],?_,rfl,lk,hak.grown hp (by simp; omega),hd.1,hd.2.1,fun j hj => hd.2.2.1 j (.inr hj),hwd,hp.os.trans hg.os,hp.tape.trans hg.tape,hp.output.trans hg.output,Nat.le_trans hg.size hp.size,fun k hk hne => (hp.block k (Nat.lt_of_lt_of_le hk hg.size) (by simp; omega)).trans (hg.block k hk hne)⟩
    simp [results,Tryz.results127,go_sem]
end Go.Proofs.YtgccgacpifebbaaGreatDoor
