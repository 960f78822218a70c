/- whole: number,of any words. (gen_number.py) whole: a pair by a turn. (gen_by.py) whole: step,of 6 and 4. (gen_step.py) whole: pair.by of a pair and a turn,as they stand. -/
import Derived.Test.YtogildikglomkaaGreatDoorWhoU
import Derived.Test.YtogildikglomkaaGreatDoorFromAny
import Derived.Test.YtogildikglomkaaGreatDoorBack
import Derived.Test.YtogildikglomkaaGreatDoorShiftDown
import Derived.Test.YtogildikglomkaaGreatDoorDivWords
import Derived.Test.YtogildikglomkaaGreatDoorApp
import Derived.BigRegionIn
import Derived.Test.YtogildikglomkaaGreatDoorWhoE
import Derived.Test.YtogildikglomkaaGreatDoorRingKit
import Derived.Deep.LoopGhost
namespace Go.Proofs.YtogildikglomkaaGreatDoor
open Go.RowKit Go.Shelf
set_option linter.unusedVariables false
attribute [local go_sem] Oper.semAt_some

theorem be_snoc (X y : Int) (m : Nat) (hX : 0 ≤ X) (hy : 0 ≤ y ∧ y < 256) : be (X * 256 + y) (m + 1) = be X m ++ [y] := by
  refine (eq_be (by simp [be_length]) fun j hj => ?_).symm
  by_cases h : j < m
  · rw [List.getD_eq_getElem?_getD,List.getElem?_append_left (by rw [be_length]; exact h),← List.getD_eq_getElem?_getD,be_getD X m j h]
    unfold byteAt
    rw [show m + 1 - 1 - j = (m - 1 - j) + 1 by omega,Int.pow_succ,Int.mul_comm (256 ^ (m - 1 - j)) 256,← Int.ediv_ediv_of_nonneg (by omega)]
    congr 2
    omega
  · obtain rfl : j = m := by omega
    rw [List.getD_eq_getElem?_getD,List.getElem?_append_right (by rw [be_length]; exact Nat.le_refl _),be_length,Nat.sub_self]
    show y = byteAt (X * 256 + y) (j + 1 - 1 - j)
    unfold byteAt
    rw [show j + 1 - 1 - j = 0 by omega]
    simp
    omega
/-- The number so far: H,and i bytes of the word x behind it. -/
def soFar (H x : Int) (i : Nat) : Int := H * 256 ^ i + x / 2 ^ (64 - 8 * i)
theorem soFar_zero {H x : Int} (h : Word x) : soFar H x 0 = H := by
  unfold soFar
  rw [Int.ediv_eq_zero_of_lt h.1 (by have := h.2; simpa using this)]; simp
theorem soFar_all {H x : Int} : soFar H x 8 = H * 18446744073709551616 + x := by
  unfold soFar; simp
theorem soFar_succ {H x : Int} {i : Nat} (hi : i < 8) : soFar H x (i + 1) = soFar H x i * 256 + x / 2 ^ (56 - 8 * i) % 256 := by
  unfold soFar
  have e1 : 64 - 8 * (i + 1) = 56 - 8 * i := by omega
  have e2 : (2 : Int) ^ (64 - 8 * i) = 2 ^ (56 - 8 * i) * 256 := by
    rw [show 64 - 8 * i = (56 - 8 * i) + 8 by omega,Int.pow_add]; rfl
  have e3 : x / (2 ^ (56 - 8 * i) * 256) = x / 2 ^ (56 - 8 * i) / 256 := (Int.ediv_ediv_of_nonneg (Int.le_of_lt (Int.pow_pos (by decide)))).symm
  rw [e1,e2,e3,Int.pow_succ,Int.add_mul,Int.mul_assoc]
  omega
theorem soFar_nonneg {H x : Int} {i : Nat} (hH : 0 ≤ H) (h : Word x) : 0 ≤ soFar H x i := by
  unfold soFar
  have h1 : 0 ≤ H * 256 ^ i := Int.mul_nonneg hH (Int.le_of_lt (Int.pow_pos (by decide)))
  have h2 : 0 ≤ x / 2 ^ (64 - 8 * i) := Int.ediv_nonneg h.1 (Int.le_of_lt (Int.pow_pos (by decide)))
  omega
theorem seg_down {l : List Int} {len k : Nat} (hk : k < len) (hl : len ≤ l.length) : seg l (len - (k + 1)) (k + 1) = seg l (len - k) k * 18446744073709551616 + l.getD (len - 1 - k) 0 := by
  obtain ⟨j,hj⟩ : ∃ j,len - 1 - k = j := ⟨_,rfl⟩
  rw [show len - (k + 1) = j by omega,show len - k = j + 1 by omega,hj,seg_cons (by omega),Int.mul_comm]
  omega
/-- The row has m bytes so far,those of X. -/
def NumR (w : World) (b len cap : Nat) (X : Int) (m : Nat) (W : World) : Prop :=
  Arr W (w.heap.size + 1) 5 .u8 (be X m ++ List.replicate (8 * len - m) 0) ∧
  W.heap[w.heap.size]? = some (.cells #[.int .u64 0,.slice none 0 0] 25 (0,0)) ∧
  W.heap[w.heap.size + 1 + 1]? = some (.cells #[.slice (some ⟨w.heap.size + 1,0,none⟩) m (8 * len)] 45 (0,0)) ∧
  W.heap[w.heap.size + 1 + 1 + 1]? = some (.cells #[.slice (some ⟨b,0,none⟩) len cap] 23 (0,0)) ∧ Below w.heap.size w W
/-- What holds at round k: the row has the bytes of the k highest words. -/
def NumI (w : World) (b len cap : Nat) (l : List Int) (k : Nat) (W : World) : Prop := NumR w b len cap (seg l (len - k) k) (8 * k) W
theorem numI_own (w : World) (b len cap B : Nat) (l : List Int) (hB : w.heap.size ≤ B) : OwnFrom B (fun k W => NumI w b len cap l k W) := by
  rintro k W W' row ⟨ha,h1,h2,h3,hg⟩ hgr hr
  have hr' := fun r e => (hr r e).2
  exact ⟨heap_cells ha hgr hr',heap_cells h1 hgr hr',heap_cells h2 hgr hr',heap_cells h3 hgr hr',hg.grown hgr hg.size (fun j e => by have := (hr j e).1; omega)⟩
/-- One byte more: the row has room. -/
theorem NumR.run {w W : World} {b len cap m h : Nat} {X y : Int} (hn : NumR w b len cap X m W) (hm : m < 8 * len) (hc : W.cell? ⟨h,0,none⟩ = some (.int .u8 y)) :
    (Builtin.append_ #[45,45] 45 #[.slice (some ⟨w.heap.size + 1,0,none⟩) m (8 * len),.slice (some ⟨h,0,none⟩) 1 1]).run Tryz.prog W = .ok (.slice (some ⟨w.heap.size + 1,0,none⟩) (m + 1) (8 * len)) (W.setCell ⟨w.heap.size + 1,m,none⟩ (.int .u8 y)) := by
  obtain ⟨i,hi,hz,hsz,hb⟩ := info_parts info8
  have hl : (be X m ++ List.replicate (8 * len - m) (0 : Int)).length = 8 * len := by rw [List.length_append,be_length,List.length_replicate]; omega
  have hs : Src Tryz.prog 1 45 (.slice (some ⟨h,0,none⟩) 1 1) 1 [.int .u8 y] W := by
    refine Src.ofSlice W Tryz.underlying45 ⟨h,0,none⟩ 1 1 [.int .u8 y] (by simp) (fun j u hj => ?_) (fun u hu => by simp at hu; subst hu; rfl)
    have hadd : (⟨h,0,none⟩ : Addr).add j = ⟨h,j,none⟩ := by unfold Addr.add; split <;> simp_all
    rcases j with _ | j
    · simp at hj; subst hj; rw [hadd]; exact hc
    · simp at hj
  have hr := run_append_room_src (P := Tryz.prog) W 45 45 45 5 i Tryz.underlying45 hi (w.heap.size + 1) 0 m (8 * len) (.slice (some ⟨h,0,none⟩) 1 1) 1 [.int .u8 y] (by rw [hsz]; exact hs) (by omega)
    (fun j hj => by rw [hsz,hn.1.cell _ (by rw [hl]; simp at hj ⊢; omega)]; rfl) (fun j hj => hn.1.free _)
  rw [hsz,Nat.zero_add,Nat.mul_one] at hr
  exact hr
theorem NumR.snoc {w W : World} {b len cap m : Nat} {X y : Int} (hn : NumR w b len cap X m W) (hm : m < 8 * len) (hX : 0 ≤ X) (hy : 0 ≤ y ∧ y < 256) (hb : b < w.heap.size) :
    NumR w b len cap (X * 256 + y) (m + 1) ((W.setCell ⟨w.heap.size + 1,m,none⟩ (.int .u8 y)).setCell ⟨w.heap.size + 1 + 1,0,none⟩ (.slice (some ⟨w.heap.size + 1,0,none⟩) (m + 1) (8 * len))) := by
  obtain ⟨ha,h1,h2,h3,hg⟩ := hn
  have e : (be X m ++ List.replicate (8 * len - m) (0 : Int)).set m y = be (X * 256 + y) (m + 1) ++ List.replicate (8 * len - (m + 1)) 0 := by
    rw [be_snoc X y m hX hy,show 8 * len - m = (8 * len - (m + 1)) + 1 by omega,List.replicate_succ,List.set_append_right _ _ (by rw [be_length]; exact Nat.le_refl _),be_length,Nat.sub_self]
    simp
  refine ⟨?_,?_,?_,?_,?_⟩
  · have := (ha.set m y).other (a := ⟨w.heap.size + 1 + 1,0,none⟩) (by show w.heap.size + 1 ≠ w.heap.size + 1 + 1; omega) (.slice (some ⟨w.heap.size + 1,0,none⟩) (m + 1) (8 * len))
    rwa [e] at this
  · exact (heap_setCell_other _ ⟨w.heap.size + 1 + 1,0,none⟩ _ _ (by show w.heap.size ≠ w.heap.size + 1 + 1; omega)).trans ((heap_setCell_other W ⟨w.heap.size + 1,m,none⟩ _ _ (by show w.heap.size ≠ w.heap.size + 1; omega)).trans h1)
  · exact heap_setCell_same _ _ 0 _ _ _ ((heap_setCell_other W ⟨w.heap.size + 1,m,none⟩ _ _ (by show w.heap.size + 1 + 1 ≠ w.heap.size + 1; omega)).trans h2)
  · exact (heap_setCell_other _ ⟨w.heap.size + 1 + 1,0,none⟩ _ _ (by show w.heap.size + 1 + 1 + 1 ≠ w.heap.size + 1 + 1; omega)).trans ((heap_setCell_other W ⟨w.heap.size + 1,m,none⟩ _ _ (by show w.heap.size + 1 + 1 + 1 ≠ w.heap.size + 1; omega)).trans h3)
  · exact (hg.setCell (p := ⟨w.heap.size + 1,m,none⟩) (by show w.heap.size ≤ w.heap.size + 1; omega) _).setCell (p := ⟨w.heap.size + 1 + 1,0,none⟩) (by show w.heap.size ≤ w.heap.size + 1 + 1; omega) _
theorem NumR.alloc {w W : World} {b len cap m : Nat} {X : Int} (hn : NumR w b len cap X m W) (o : Obj) : NumR w b len cap X m (W.alloc o) := by
  obtain ⟨ha,h1,h2,h3,hg⟩ := hn
  exact ⟨ha.alloc o,(heap_old W o _ (Array.getElem?_eq_some_iff.1 h1).1).trans h1,(heap_old W o _ (Array.getElem?_eq_some_iff.1 h2).1).trans h2,(heap_old W o _ (Array.getElem?_eq_some_iff.1 h3).1).trans h3,hg.alloc hg.size o⟩
theorem NumR.drew {w W : World} {b len cap m : Nat} {X : Int} (hn : NumR w b len cap X m W) : NumR w b len cap X m W.drew := ⟨hn.1,hn.2.1,hn.2.2.1,hn.2.2.2.1,hn.2.2.2.2.drew⟩
theorem NumR.box {w W : World} {b len cap m : Nat} {X : Int} (hn : NumR w b len cap X m W) {i : Nat} {v : Value} : (W.setCell ⟨w.heap.size + 1,i,none⟩ v).cell? ⟨w.heap.size + 1 + 1,0,none⟩ = some (.slice (some ⟨w.heap.size + 1,0,none⟩) m (8 * len)) := by
  rw [cell_of_row _ _ 0 _ _ (0,0) ((heap_setCell_other W ⟨w.heap.size + 1,i,none⟩ _ _ (by show w.heap.size + 1 + 1 ≠ w.heap.size + 1; omega)).trans hn.2.2.1)]; rfl
theorem NumR.boxf {w W : World} {b len cap m : Nat} {X : Int} (hn : NumR w b len cap X m W) {i : Nat} {v : Value} : (W.setCell ⟨w.heap.size + 1,i,none⟩ v).frozen? ⟨w.heap.size + 1 + 1,0,none⟩ = false :=
  frozen_of_row _ _ 0 _ _ ((heap_setCell_other W ⟨w.heap.size + 1,i,none⟩ _ _ (by show w.heap.size + 1 + 1 ≠ w.heap.size + 1; omega)).trans hn.2.2.1)
theorem NumR.box0 {w W : World} {b len cap m : Nat} {X : Int} (hn : NumR w b len cap X m W) : W.cell? ⟨w.heap.size + 1 + 1,0,none⟩ = some (.slice (some ⟨w.heap.size + 1,0,none⟩) m (8 * len)) := by
  rw [cell_of_row _ _ 0 _ _ (0,0) hn.2.2.1]; rfl
theorem cellNew8 (w : World) (y : Int) : (w.alloc (.cells #[.int .u8 y] 5)).cell? ⟨w.heap.size,0,none⟩ = some (.int .u8 y) := by
  rw [cell_of_row _ w.heap.size 0 _ _ (0,0) (heap_new _ _ _ rfl)]; rfl
theorem step_append_num {F : Fence} {n : Nat} {P : Program} {ops : Array Oper} {o : Oper} {a : Act} {w : World} {K : Act → World → Prop} {Q : Exit → Act → World → Prop} {E : Prop}
    (hg : o.guard = none) (s x : Operand) (t tx : TypeId) (hop : o.op = .call { callee := .builtin .append,args := #[s,x],argTypes := #[t,tx] }) (vs vx : Value) (hs : a.eval s = vs) (hx : a.eval x = vx)
    (v' : Value) (w' : World) (hr : (Builtin.append_ #[t,tx] o.type #[vs,vx]).run P w = .ok v' w') (hK : K (a.put o.dst v') w') :
    if Region.wanted o (yielded ops a.tmps) = true then Oper.wpIn F n P o a w K Q else E := by
  have hw : Region.wanted o (yielded ops a.tmps) = true := by simp [Region.wanted,hg]
  rw [if_pos hw]
  refine ⟨fun f hf => ?_,?_⟩
  · simp [Oper.about,hop,resolve,Target.leads,Sem.run_pure] at hf
  · rw [Oper.semAt_plain F _ _ (by rw [hop]; intro c hc'; cases hc')]
    simp only [execOp,hop,resolve,invoke,builtin,Sem.run_bind,Sem.run_pure,Result.andThen_ok,List.map_toArray,List.map_cons,List.map_nil,hs,hx,hr]
    exact hK
theorem make8r (c : Nat) (i : Int) (hi : i = c) (hc : c ≤ 281474976710656) (w : World) :
    (Instr.makeSlice 45 (.int .i64 0) (.int .i64 i)).run Tryz.prog w = .ok (.slice (some ⟨w.heap.size,0,none⟩) 0 c) (w.alloc (.cells (zeros .u8 c) 5)) := by
  subst hi
  obtain ⟨i0,hi,hz0,hz1,hz2⟩ := info_parts info8
  have hr := run_make (P := Tryz.prog) w 45 5 i0 _ Tryz.underlying45 hi hz0 .i64 .i64 0 c (by omega) (by omega) (by rw [hz2]; omega) (by omega)
  rw [hr,Int.toNat_natCast,hz1,Nat.mul_one]
  show Result.ok _ (w.alloc (.cells (madeCells #[.int .u8 0] c) 5)) = _
  rw [madeCells_zeros]
  rfl
set_option maxRecDepth 100000 in
set_option maxHeartbeats 2000000 in
theorem number_any (b t len cap : Nat) (l : List Int) (w : World) (ha : Arr w b t .u64 l) (hl : len = l.length) (h1 : 1 ≤ len) (hm : len ≤ 50) (hw : Words l) :
    Calls Tryz.prog 50 #[.slice (some ⟨b,0,none⟩) len cap] w (RetNat (seg l 0 len) w) := by
  have k1 := ha.lt
  have Hl := Lib.hid hl
  clear hl
  have e8 : IntKind.i64.wrap ((len : Int) * 8) = (len : Int) * 8 := by rw [IntKind.wrap_i64]; omega
  have hmk := make8r (8 * len) ((len : Int) * 8) (by omega) (by omega)
  refine (callsIn_wide (n := 5)).1 ?_
  refine callsIn_of_wp_marks Tryz.func50 rfl trivial ?_ rfl
  simp only [Tryz.ntmps50,List.size_toArray,List.length_cons,List.length_nil,Nat.reduceAdd,Nat.reduceSub,Array.replicate_succ,Array.replicate_zero,List.push_toArray,List.append_toArray,List.nil_append,List.cons_append]
  gi_wp2_with (refine ⟨trivial,?_⟩; gi_at_call 67; refine (back_in Fence.wide 4 trivial rfl _ _ _ _).mono ?_; rintro e w' ⟨rfl,rfl⟩)
  have hz : ((((w.alloc (.cells #[.int .u64 0,.slice none 0 0] 25)).alloc (.cells (zeros .u8 (8 * len)) 5)).alloc (.cells #[.slice (some ⟨w.heap.size + 1,0,none⟩) 0 (8 * len)] 45)).alloc (.cells #[.slice (some ⟨b,0,none⟩) len cap] 23)).heap.size = w.heap.size + 1 + 1 + 1 + 1 := by simp
  have i0 : NumI w b len cap l 0 ((((w.alloc (.cells #[.int .u64 0,.slice none 0 0] 25)).alloc (.cells (zeros .u8 (8 * len)) 5)).alloc (.cells #[.slice (some ⟨w.heap.size + 1,0,none⟩) 0 (8 * len)] 45)).alloc (.cells #[.slice (some ⟨b,0,none⟩) len cap] 23)) := by
    refine ⟨?_,?_,?_,?_,by go_grown⟩
    · have := ((Arr.zeros (w.alloc (.cells #[.int .u64 0,.slice none 0 0] 25)) 5 .u8 (8 * len) (w.heap.size + 1) (by simp)).alloc (.cells #[.slice (some ⟨w.heap.size + 1,0,none⟩) 0 (8 * len)] 45)).alloc (.cells #[.slice (some ⟨b,0,none⟩) len cap] 23)
      simpa [be] using this
    · exact (heap_old _ _ _ (by simp; omega)).trans ((heap_old _ _ _ (by simp; omega)).trans ((heap_old _ _ _ (by simp)).trans (heap_new _ _ _ rfl)))
    · exact (heap_old _ _ _ (by simp)).trans (heap_new _ _ _ (by simp))
    · exact heap_new _ _ _ (by simp)
  generalize ((((w.alloc (.cells #[.int .u64 0,.slice none 0 0] 25)).alloc (.cells (zeros .u8 (8 * len)) 5)).alloc (.cells #[.slice (some ⟨w.heap.size + 1,0,none⟩) 0 (8 * len)] 45)).alloc (.cells #[.slice (some ⟨b,0,none⟩) len cap] 23)) = W0 at i0 hz ⊢
  refine wpIn_steps rfl (by decide) (gf := 99) (lb := #[.pointer (some ⟨w.heap.size + 1 + 1 + 1,0,none⟩)]) rfl trivial (enters_of Tryz.func99 (by kernel_rfl) rfl)
    len (fun k => #[.int .i64 ((len - 1 - k : Nat) : Int),.int .u64 (l.getD (len - 1 - k) 0)]) (fun _ => rfl) (fun k W => NumI w b len cap l k W) (numI_own w b len cap _ l (by omega)) i0
    (fun l' J W hJ _ hY h0 => back_steps Fence.wide 4 trivial rfl (by decide) l' (w.heap.size + 1 + 1 + 1) len cap (some ⟨b,0,none⟩) (fun k => l.getD (len - 1 - k) 0) (by omega) J (fun k W h => ?cells) hY W h0)
    (fun k => { tmps := #[.slice (some ⟨b,0,none⟩) len cap,undef,.pointer (some ⟨w.heap.size,0,none⟩),.pointer (some ⟨w.heap.size + 1 + 1,0,none⟩),undef,.int .u64 (l.getD (len - 1 - k) 0),undef,.slice (some ⟨b,0,none⟩) len cap,.int .i64 (len : Int),.int .i64 ((len : Int) * 8),.slice (some ⟨w.heap.size + 1,0,none⟩) 0 (8 * len),.slice (some ⟨b,0,none⟩) len cap,.func (.func 99) #[] #[.pointer (some ⟨w.heap.size + 1 + 1 + 1,0,none⟩)],.int .i64 ((len - 1 - k : Nat) : Int),.int .u64 (l.getD (len - 1 - k) 0),undef,undef,undef,undef,undef,undef,undef,undef,undef,undef,undef,undef,undef,undef,undef],defers := [] }) ?assign ?body ?done
  case cells =>
    obtain ⟨hak,h1,h2,h3,hg⟩ := hJ k W h
    refine ⟨by rw [cell_of_row W _ 0 _ _ (0,0) h3]; rfl,fun hk => ⟨b,rfl,?_⟩⟩
    exact (ha.below hg k1).cell (len - 1 - k) (by rw [← Hl.out]; omega)
  case assign =>
    intro l' k W K hK
    generalize l.getD (len - 1 - k) 0 = z at hK ⊢
    generalize len - 1 - k = j at hK ⊢
    gi_wp2
    exact hK
  case body =>
    rintro l' k V hk hn
    have hx : Word (l.getD (len - 1 - k) 0) := hw.getD _
    have sd := seg_down hk (Nat.le_of_eq Hl.out)
    have hH := (seg_bd hw (len - k) k (by rw [← Hl.out]; omega)).1
    have goal : ∀ W',NumR w b len cap (soFar (seg l (len - k) k) (l.getD (len - 1 - k) 0) 8) (8 * k + 8) W' → NumI w b len cap l (k + 1) W' := fun W' h => by
      rw [soFar_all,← sd] at h
      exact h
    have hn0 : NumR w b len cap (soFar (seg l (len - k) k) (l.getD (len - 1 - k) 0) 0) (8 * k + 0) V := by
      rw [soFar_zero hx]; exact hn
    clear sd hn i0 hmk
    generalize seg l (len - k) k = H at hH goal hn0
    generalize l.getD (len - 1 - k) 0 = x at hx goal hn0 ⊢
    generalize len - 1 - k = j0
    have kk0 := KeepsOthers.refl V
    gi_wp2
    gi_loopw [15] (fun i wr => ∃ j : Nat,j ≤ 8 ∧ i = .int .i64 (j : Int) ∧ NumR w b len cap (soFar H x j) (8 * k + j) wr ∧ KeepsOthers V wr) (fun i _ => (8 - intOf i).toNat)
    case atStart => exact ⟨0,by omega,rfl,hn0,kk0⟩
    case round =>
      obtain ⟨j,hj,rfl,hr,hkk⟩ := hrel
      by_cases h8 : j < 8
      · have hy0 : 0 ≤ x / 2 ^ (56 - 8 * j) % 256 ∧ x / 2 ^ (56 - 8 * j) % 256 < 256 := by omega
        have hs1 := soFar_succ (H := H) (x := x) h8
        have hX0 := soFar_nonneg (i := j) hH hx
        have hm8 : 8 * k + j < 8 * len := by omega
        have hd : IntKind.u8.wrap (x / 2 ^ (56 - 8 * j)) = x / 2 ^ (56 - 8 * j) % 256 := IntKind.wrap_u8 _
        have e1 : (56 : Int) - 8 * (j : Int) = ((56 - 8 * j : Nat) : Int) := by omega
        have s64 : 56 - 8 * j < 64 := by omega
        have ws : IntKind.i64.wrap ((56 - 8 * j : Nat) : Int) = ((56 - 8 * j : Nat) : Int) := by rw [IntKind.wrap_i64]; omega
        have w8 : IntKind.i64.wrap (8 * (j : Int)) = 8 * (j : Int) := by rw [IntKind.wrap_i64]; omega
        have Hgoal := Lib.hid goal
        have Hj := Lib.hid hj
        have H8 := Lib.hid h8
        clear goal hj h8
        have hj8 : (j : Int) < 8 := by have := H8.out; omega
        generalize 56 - 8 * j = s at hy0 hs1 hd e1 s64 ws
        generalize x / 2 ^ s % 256 = y at hy0 hs1 hd
        generalize soFar H x j = X at hr hs1 hX0
        obtain ⟨m,hmm⟩ : ∃ m,8 * k + j = m := ⟨_,rfl⟩
        rw [hmm] at hr hm8
        have Hs := Lib.hid hs1
        have Hm := Lib.hid hmm
        clear hs1 hmm hn0
        gi_wp2
        refine region_ways (by kernel_rfl) fun R hR => ?_
        have Uu := fun (n : Nat) (l : Array Bool) (a : Act) (w : World) (h : R n l a w) => cast (congrFun (congrFun (congrFun (congrFun hR.symm n) l) a) w) h
        have H0 : ∀ (W : World) (kk : KeepsOthers V W) (nf : NumR w b len cap (X * 256 + y) (m + 1) W) (h : Nat),R 0 #[true,true,true,true,true,true,true,true,true,true] { tmps := #[.slice (some ⟨b,0,none⟩) len cap,undef,.pointer (some ⟨w.heap.size,0,none⟩),.pointer (some ⟨w.heap.size + 1 + 1,0,none⟩),undef,.int .u64 x,.int .i64 (j : Int),.slice (some ⟨b,0,none⟩) len cap,.int .i64 (len : Int),.int .i64 ((len : Int) * 8),.slice (some ⟨w.heap.size + 1,0,none⟩) 0 (8 * len),.slice (some ⟨b,0,none⟩) len cap,.func (.func 99) #[] #[.pointer (some ⟨w.heap.size + 1 + 1 + 1,0,none⟩)],.int .i64 (j0 : Int),.int .u64 x,.int .i64 (j : Int),.bool true,.int .i64 (j : Int),.slice (some ⟨w.heap.size + 1,0,none⟩) m (8 * len),.int .u64 x,.int .i64 (j : Int),.int .i64 (8 * (j : Int)),.int .i64 (s : Int),.int .u64 (x / 2 ^ s),.int .u8 y,.slice (some ⟨h,0,none⟩) 1 1,.slice (some ⟨w.heap.size + 1,0,none⟩) (m + 1) (8 * len),u27,undef,undef],defers := [] } W := by
          intro W kk nf h
          rw [← hR]
          refine wpAnyIn_done (by kernel_rfl) ?_ _
          gi_wp2
          refine ⟨⟨j + 1,by have := H8.out; omega,by first | rfl | (congr 1),?_,kk⟩,by have := H8.out; simp [intOf]; omega⟩
          rw [Hs.out,show 8 * k + (j + 1) = m + 1 by have := Hm.out; omega]
          exact nf
        have H1 : ∀ (W : World) (kk : KeepsOthers V W) (U : World) (nu : NumR w b len cap X m U) (hU : U.setCell ⟨w.heap.size + 1,m,none⟩ (.int .u8 y) = W) (h : Nat),R 1 #[true,true,true,true,true,true,true,true,true,false] { tmps := #[.slice (some ⟨b,0,none⟩) len cap,undef,.pointer (some ⟨w.heap.size,0,none⟩),.pointer (some ⟨w.heap.size + 1 + 1,0,none⟩),undef,.int .u64 x,.int .i64 (j : Int),.slice (some ⟨b,0,none⟩) len cap,.int .i64 (len : Int),.int .i64 ((len : Int) * 8),.slice (some ⟨w.heap.size + 1,0,none⟩) 0 (8 * len),.slice (some ⟨b,0,none⟩) len cap,.func (.func 99) #[] #[.pointer (some ⟨w.heap.size + 1 + 1 + 1,0,none⟩)],.int .i64 (j0 : Int),.int .u64 x,.int .i64 (j : Int),.bool true,.int .i64 (j : Int),.slice (some ⟨w.heap.size + 1,0,none⟩) m (8 * len),.int .u64 x,.int .i64 (j : Int),.int .i64 (8 * (j : Int)),.int .i64 (s : Int),.int .u64 (x / 2 ^ s),.int .u8 y,.slice (some ⟨h,0,none⟩) 1 1,.slice (some ⟨w.heap.size + 1,0,none⟩) (m + 1) (8 * len),u27,undef,undef],defers := [] } W := by
          intro W kk U nu hU h
          rw [← hR]
          have c3 : W.cell? ⟨w.heap.size + 1 + 1,0,none⟩ = some (.slice (some ⟨w.heap.size + 1,0,none⟩) m (8 * len)) := by rw [← hU]; exact nu.box
          have f3 : W.frozen? ⟨w.heap.size + 1 + 1,0,none⟩ = false := by rw [← hU]; exact nu.boxf
          refine wpAnyIn_ready (rs := [9]) (by kernel_rfl) (by simp) ?_
          refine AllReadyIn.cons rfl (fun K hK => ?_) ?_
          · go_simp
            exact hK _ _ (Uu _ _ _ _ (H0 (W.setCell ⟨w.heap.size + 1 + 1,0,none⟩ (.slice (some ⟨w.heap.size + 1,0,none⟩) (m + 1) (8 * len))) (kk.trans (KeepsOthers.setCell _ _ _)) (by rw [← hU]; exact nu.snoc hm8 hX0 hy0 k1) h))
          exact AllReadyIn.nil
        have H2 : ∀ (W : World) (kk : KeepsOthers V W) (nr : NumR w b len cap X m W) (h : Nat) (hc : W.cell? ⟨h,0,none⟩ = some (.int .u8 y)),R 2 #[true,true,true,true,true,true,true,true,false,false] { tmps := #[.slice (some ⟨b,0,none⟩) len cap,undef,.pointer (some ⟨w.heap.size,0,none⟩),.pointer (some ⟨w.heap.size + 1 + 1,0,none⟩),undef,.int .u64 x,.int .i64 (j : Int),.slice (some ⟨b,0,none⟩) len cap,.int .i64 (len : Int),.int .i64 ((len : Int) * 8),.slice (some ⟨w.heap.size + 1,0,none⟩) 0 (8 * len),.slice (some ⟨b,0,none⟩) len cap,.func (.func 99) #[] #[.pointer (some ⟨w.heap.size + 1 + 1 + 1,0,none⟩)],.int .i64 (j0 : Int),.int .u64 x,.int .i64 (j : Int),.bool true,.int .i64 (j : Int),.slice (some ⟨w.heap.size + 1,0,none⟩) m (8 * len),.int .u64 x,.int .i64 (j : Int),.int .i64 (8 * (j : Int)),.int .i64 (s : Int),.int .u64 (x / 2 ^ s),.int .u8 y,.slice (some ⟨h,0,none⟩) 1 1,u26,u27,undef,undef],defers := [] } W := by
          intro W kk nr h hc
          rw [← hR]
          have c3 := nr.box0
          refine wpAnyIn_ready (rs := [8]) (by kernel_rfl) (by simp) ?_
          refine AllReadyIn.cons rfl (fun K hK => ?_) ?_
          · have hrun := nr.run hm8 hc; obtain ⟨W2,hW2⟩ : ∃ W2,W.setCell ⟨w.heap.size + 1,m,none⟩ (.int .u8 y) = W2 := ⟨_,rfl⟩; rw [hW2] at hrun
            refine step_append_num rfl _ _ _ _ rfl _ _ rfl rfl _ _ hrun (hK _ _ ?_)
            exact Uu _ _ _ _ (H1 W2 (kk.trans (by rw [← hW2]; exact KeepsOthers.setCell _ _ _)) W nr hW2 h)
          exact AllReadyIn.nil
        have H3 : ∀ (W : World) (kk : KeepsOthers V W) (nr : NumR w b len cap X m W),R 3 #[true,true,true,true,true,true,true,false,false,false] { tmps := #[.slice (some ⟨b,0,none⟩) len cap,undef,.pointer (some ⟨w.heap.size,0,none⟩),.pointer (some ⟨w.heap.size + 1 + 1,0,none⟩),undef,.int .u64 x,.int .i64 (j : Int),.slice (some ⟨b,0,none⟩) len cap,.int .i64 (len : Int),.int .i64 ((len : Int) * 8),.slice (some ⟨w.heap.size + 1,0,none⟩) 0 (8 * len),.slice (some ⟨b,0,none⟩) len cap,.func (.func 99) #[] #[.pointer (some ⟨w.heap.size + 1 + 1 + 1,0,none⟩)],.int .i64 (j0 : Int),.int .u64 x,.int .i64 (j : Int),.bool true,.int .i64 (j : Int),.slice (some ⟨w.heap.size + 1,0,none⟩) m (8 * len),.int .u64 x,.int .i64 (j : Int),.int .i64 (8 * (j : Int)),.int .i64 (s : Int),.int .u64 (x / 2 ^ s),.int .u8 y,u25,u26,u27,undef,undef],defers := [] } W := by
          intro W kk nr
          rw [← hR]
          have c3 := nr.box0
          refine wpAnyIn_ready (rs := [7]) (by kernel_rfl) (by simp) ?_
          refine AllReadyIn.cons rfl (fun K hK => ?_) ?_
          · go_simp
            exact hK _ _ (Uu _ _ _ _ (H2 (W.alloc (.cells #[.int .u8 y] 5)) (kk.trans (KeepsOthers.alloc _ _)) (nr.alloc _) W.heap.size (cellNew8 W y)))
          exact AllReadyIn.nil
        have H4 : ∀ (W : World) (kk : KeepsOthers V W) (nr : NumR w b len cap X m W),R 4 #[true,true,true,true,true,true,false,false,false,false] { tmps := #[.slice (some ⟨b,0,none⟩) len cap,undef,.pointer (some ⟨w.heap.size,0,none⟩),.pointer (some ⟨w.heap.size + 1 + 1,0,none⟩),undef,.int .u64 x,.int .i64 (j : Int),.slice (some ⟨b,0,none⟩) len cap,.int .i64 (len : Int),.int .i64 ((len : Int) * 8),.slice (some ⟨w.heap.size + 1,0,none⟩) 0 (8 * len),.slice (some ⟨b,0,none⟩) len cap,.func (.func 99) #[] #[.pointer (some ⟨w.heap.size + 1 + 1 + 1,0,none⟩)],.int .i64 (j0 : Int),.int .u64 x,.int .i64 (j : Int),.bool true,.int .i64 (j : Int),.slice (some ⟨w.heap.size + 1,0,none⟩) m (8 * len),.int .u64 x,.int .i64 (j : Int),.int .i64 (8 * (j : Int)),.int .i64 (s : Int),.int .u64 (x / 2 ^ s),u24,u25,u26,u27,undef,undef],defers := [] } W := by
          intro W kk nr
          rw [← hR]
          have c3 := nr.box0
          refine wpAnyIn_ready (rs := [6]) (by kernel_rfl) (by simp) ?_
          refine AllReadyIn.cons rfl (fun K hK => ?_) ?_
          · go_simp
            exact hK _ _ (Uu _ _ _ _ (H3 W kk nr))
          exact AllReadyIn.nil
        have H5 : ∀ (W : World) (kk : KeepsOthers V W) (nr : NumR w b len cap X m W),R 5 #[true,true,true,true,true,false,false,false,false,false] { tmps := #[.slice (some ⟨b,0,none⟩) len cap,undef,.pointer (some ⟨w.heap.size,0,none⟩),.pointer (some ⟨w.heap.size + 1 + 1,0,none⟩),undef,.int .u64 x,.int .i64 (j : Int),.slice (some ⟨b,0,none⟩) len cap,.int .i64 (len : Int),.int .i64 ((len : Int) * 8),.slice (some ⟨w.heap.size + 1,0,none⟩) 0 (8 * len),.slice (some ⟨b,0,none⟩) len cap,.func (.func 99) #[] #[.pointer (some ⟨w.heap.size + 1 + 1 + 1,0,none⟩)],.int .i64 (j0 : Int),.int .u64 x,.int .i64 (j : Int),.bool true,.int .i64 (j : Int),.slice (some ⟨w.heap.size + 1,0,none⟩) m (8 * len),.int .u64 x,.int .i64 (j : Int),.int .i64 (8 * (j : Int)),.int .i64 (s : Int),u23,u24,u25,u26,u27,undef,undef],defers := [] } W := by
          intro W kk nr
          rw [← hR]
          have c3 := nr.box0
          refine wpAnyIn_ready (rs := [5]) (by kernel_rfl) (by simp) ?_
          refine AllReadyIn.cons rfl (fun K hK => ?_) ?_
          · go_simp
            exact hK _ _ (Uu _ _ _ _ (H4 W kk nr))
          exact AllReadyIn.nil
        have H6 : ∀ (W : World) (kk : KeepsOthers V W) (nr : NumR w b len cap X m W),R 6 #[true,true,true,true,false,false,false,false,false,false] { tmps := #[.slice (some ⟨b,0,none⟩) len cap,undef,.pointer (some ⟨w.heap.size,0,none⟩),.pointer (some ⟨w.heap.size + 1 + 1,0,none⟩),undef,.int .u64 x,.int .i64 (j : Int),.slice (some ⟨b,0,none⟩) len cap,.int .i64 (len : Int),.int .i64 ((len : Int) * 8),.slice (some ⟨w.heap.size + 1,0,none⟩) 0 (8 * len),.slice (some ⟨b,0,none⟩) len cap,.func (.func 99) #[] #[.pointer (some ⟨w.heap.size + 1 + 1 + 1,0,none⟩)],.int .i64 (j0 : Int),.int .u64 x,.int .i64 (j : Int),.bool true,.int .i64 (j : Int),.slice (some ⟨w.heap.size + 1,0,none⟩) m (8 * len),.int .u64 x,.int .i64 (j : Int),.int .i64 (8 * (j : Int)),u22,u23,u24,u25,u26,u27,undef,undef],defers := [] } W := by
          intro W kk nr
          rw [← hR]
          have c3 := nr.box0
          refine wpAnyIn_ready (rs := [4]) (by kernel_rfl) (by simp) ?_
          refine AllReadyIn.cons rfl (fun K hK => ?_) ?_
          · go_simp
            exact hK _ _ (Uu _ _ _ _ (H5 W kk nr))
          exact AllReadyIn.nil
        have H7 : ∀ (W : World) (kk : KeepsOthers V W) (nr : NumR w b len cap X m W),R 7 #[true,true,true,false,false,false,false,false,false,false] { tmps := #[.slice (some ⟨b,0,none⟩) len cap,undef,.pointer (some ⟨w.heap.size,0,none⟩),.pointer (some ⟨w.heap.size + 1 + 1,0,none⟩),undef,.int .u64 x,.int .i64 (j : Int),.slice (some ⟨b,0,none⟩) len cap,.int .i64 (len : Int),.int .i64 ((len : Int) * 8),.slice (some ⟨w.heap.size + 1,0,none⟩) 0 (8 * len),.slice (some ⟨b,0,none⟩) len cap,.func (.func 99) #[] #[.pointer (some ⟨w.heap.size + 1 + 1 + 1,0,none⟩)],.int .i64 (j0 : Int),.int .u64 x,.int .i64 (j : Int),.bool true,.int .i64 (j : Int),.slice (some ⟨w.heap.size + 1,0,none⟩) m (8 * len),.int .u64 x,.int .i64 (j : Int),u21,u22,u23,u24,u25,u26,u27,undef,undef],defers := [] } W := by
          intro W kk nr
          rw [← hR]
          have c3 := nr.box0
          refine wpAnyIn_ready (rs := [3]) (by kernel_rfl) (by simp) ?_
          refine AllReadyIn.cons rfl (fun K hK => ?_) ?_
          · go_simp
            exact hK _ _ (Uu _ _ _ _ (H6 W kk nr))
          exact AllReadyIn.nil
        have H8 : ∀ (W : World) (kk : KeepsOthers V W) (nr : NumR w b len cap X m W),R 8 #[true,true,false,false,false,false,false,false,false,false] { tmps := #[.slice (some ⟨b,0,none⟩) len cap,undef,.pointer (some ⟨w.heap.size,0,none⟩),.pointer (some ⟨w.heap.size + 1 + 1,0,none⟩),undef,.int .u64 x,.int .i64 (j : Int),.slice (some ⟨b,0,none⟩) len cap,.int .i64 (len : Int),.int .i64 ((len : Int) * 8),.slice (some ⟨w.heap.size + 1,0,none⟩) 0 (8 * len),.slice (some ⟨b,0,none⟩) len cap,.func (.func 99) #[] #[.pointer (some ⟨w.heap.size + 1 + 1 + 1,0,none⟩)],.int .i64 (j0 : Int),.int .u64 x,.int .i64 (j : Int),.bool true,.int .i64 (j : Int),.slice (some ⟨w.heap.size + 1,0,none⟩) m (8 * len),.int .u64 x,u20,u21,u22,u23,u24,u25,u26,u27,undef,undef],defers := [] } W := by
          intro W kk nr
          rw [← hR]
          have c3 := nr.box0
          refine wpAnyIn_ready (rs := [2]) (by kernel_rfl) (by simp) ?_
          refine AllReadyIn.cons rfl (fun K hK => ?_) ?_
          · go_simp
            exact hK _ _ (Uu _ _ _ _ (H7 W kk nr))
          exact AllReadyIn.nil
        have H9 : ∀ (W : World) (kk : KeepsOthers V W) (nr : NumR w b len cap X m W),R 6 #[true,false,true,true,true,false,false,false,false,false] { tmps := #[.slice (some ⟨b,0,none⟩) len cap,undef,.pointer (some ⟨w.heap.size,0,none⟩),.pointer (some ⟨w.heap.size + 1 + 1,0,none⟩),undef,.int .u64 x,.int .i64 (j : Int),.slice (some ⟨b,0,none⟩) len cap,.int .i64 (len : Int),.int .i64 ((len : Int) * 8),.slice (some ⟨w.heap.size + 1,0,none⟩) 0 (8 * len),.slice (some ⟨b,0,none⟩) len cap,.func (.func 99) #[] #[.pointer (some ⟨w.heap.size + 1 + 1 + 1,0,none⟩)],.int .i64 (j0 : Int),.int .u64 x,.int .i64 (j : Int),.bool true,.int .i64 (j : Int),.slice (some ⟨w.heap.size + 1,0,none⟩) m (8 * len),u19,.int .i64 (j : Int),.int .i64 (8 * (j : Int)),.int .i64 (s : Int),u23,u24,u25,u26,u27,undef,undef],defers := [] } W := by
          intro W kk nr
          rw [← hR]
          have c3 := nr.box0
          refine wpAnyIn_ready (rs := [1]) (by kernel_rfl) (by simp) ?_
          refine AllReadyIn.cons rfl (fun K hK => ?_) ?_
          · go_simp
            exact hK _ _ (Uu _ _ _ _ (H5 W kk nr))
          exact AllReadyIn.nil
        have H10 : ∀ (W : World) (kk : KeepsOthers V W) (nr : NumR w b len cap X m W),R 7 #[true,false,true,true,false,false,false,false,false,false] { tmps := #[.slice (some ⟨b,0,none⟩) len cap,undef,.pointer (some ⟨w.heap.size,0,none⟩),.pointer (some ⟨w.heap.size + 1 + 1,0,none⟩),undef,.int .u64 x,.int .i64 (j : Int),.slice (some ⟨b,0,none⟩) len cap,.int .i64 (len : Int),.int .i64 ((len : Int) * 8),.slice (some ⟨w.heap.size + 1,0,none⟩) 0 (8 * len),.slice (some ⟨b,0,none⟩) len cap,.func (.func 99) #[] #[.pointer (some ⟨w.heap.size + 1 + 1 + 1,0,none⟩)],.int .i64 (j0 : Int),.int .u64 x,.int .i64 (j : Int),.bool true,.int .i64 (j : Int),.slice (some ⟨w.heap.size + 1,0,none⟩) m (8 * len),u19,.int .i64 (j : Int),.int .i64 (8 * (j : Int)),u22,u23,u24,u25,u26,u27,undef,undef],defers := [] } W := by
          intro W kk nr
          rw [← hR]
          have c3 := nr.box0
          refine wpAnyIn_ready (rs := [1,4]) (by kernel_rfl) (by simp) ?_
          refine AllReadyIn.cons rfl (fun K hK => ?_) ?_
          · go_simp
            exact hK _ _ (Uu _ _ _ _ (H6 W kk nr))
          refine AllReadyIn.cons rfl (fun K hK => ?_) ?_
          · go_simp
            exact hK _ _ (Uu _ _ _ _ (H9 W kk nr))
          exact AllReadyIn.nil
        have H11 : ∀ (W : World) (kk : KeepsOthers V W) (nr : NumR w b len cap X m W),R 8 #[true,false,true,false,false,false,false,false,false,false] { tmps := #[.slice (some ⟨b,0,none⟩) len cap,undef,.pointer (some ⟨w.heap.size,0,none⟩),.pointer (some ⟨w.heap.size + 1 + 1,0,none⟩),undef,.int .u64 x,.int .i64 (j : Int),.slice (some ⟨b,0,none⟩) len cap,.int .i64 (len : Int),.int .i64 ((len : Int) * 8),.slice (some ⟨w.heap.size + 1,0,none⟩) 0 (8 * len),.slice (some ⟨b,0,none⟩) len cap,.func (.func 99) #[] #[.pointer (some ⟨w.heap.size + 1 + 1 + 1,0,none⟩)],.int .i64 (j0 : Int),.int .u64 x,.int .i64 (j : Int),.bool true,.int .i64 (j : Int),.slice (some ⟨w.heap.size + 1,0,none⟩) m (8 * len),u19,.int .i64 (j : Int),u21,u22,u23,u24,u25,u26,u27,undef,undef],defers := [] } W := by
          intro W kk nr
          rw [← hR]
          have c3 := nr.box0
          refine wpAnyIn_ready (rs := [1,3]) (by kernel_rfl) (by simp) ?_
          refine AllReadyIn.cons rfl (fun K hK => ?_) ?_
          · go_simp
            exact hK _ _ (Uu _ _ _ _ (H7 W kk nr))
          refine AllReadyIn.cons rfl (fun K hK => ?_) ?_
          · go_simp
            exact hK _ _ (Uu _ _ _ _ (H10 W kk nr))
          exact AllReadyIn.nil
        have H12 : ∀ (W : World) (kk : KeepsOthers V W) (nr : NumR w b len cap X m W),R 9 #[true,false,false,false,false,false,false,false,false,false] { tmps := #[.slice (some ⟨b,0,none⟩) len cap,undef,.pointer (some ⟨w.heap.size,0,none⟩),.pointer (some ⟨w.heap.size + 1 + 1,0,none⟩),undef,.int .u64 x,.int .i64 (j : Int),.slice (some ⟨b,0,none⟩) len cap,.int .i64 (len : Int),.int .i64 ((len : Int) * 8),.slice (some ⟨w.heap.size + 1,0,none⟩) 0 (8 * len),.slice (some ⟨b,0,none⟩) len cap,.func (.func 99) #[] #[.pointer (some ⟨w.heap.size + 1 + 1 + 1,0,none⟩)],.int .i64 (j0 : Int),.int .u64 x,.int .i64 (j : Int),.bool true,.int .i64 (j : Int),.slice (some ⟨w.heap.size + 1,0,none⟩) m (8 * len),u19,u20,u21,u22,u23,u24,u25,u26,u27,undef,undef],defers := [] } W := by
          intro W kk nr
          rw [← hR]
          have c3 := nr.box0
          refine wpAnyIn_ready (rs := [1,2]) (by kernel_rfl) (by simp) ?_
          refine AllReadyIn.cons rfl (fun K hK => ?_) ?_
          · go_simp
            exact hK _ _ (Uu _ _ _ _ (H8 W kk nr))
          refine AllReadyIn.cons rfl (fun K hK => ?_) ?_
          · go_simp
            exact hK _ _ (Uu _ _ _ _ (H11 W kk nr))
          exact AllReadyIn.nil
        have H13 : ∀ (W : World) (kk : KeepsOthers V W) (nr : NumR w b len cap X m W) (h : Nat) (hc : W.cell? ⟨h,0,none⟩ = some (.int .u8 y)),R 3 #[false,true,true,true,true,true,true,true,false,false] { tmps := #[.slice (some ⟨b,0,none⟩) len cap,undef,.pointer (some ⟨w.heap.size,0,none⟩),.pointer (some ⟨w.heap.size + 1 + 1,0,none⟩),undef,.int .u64 x,.int .i64 (j : Int),.slice (some ⟨b,0,none⟩) len cap,.int .i64 (len : Int),.int .i64 ((len : Int) * 8),.slice (some ⟨w.heap.size + 1,0,none⟩) 0 (8 * len),.slice (some ⟨b,0,none⟩) len cap,.func (.func 99) #[] #[.pointer (some ⟨w.heap.size + 1 + 1 + 1,0,none⟩)],.int .i64 (j0 : Int),.int .u64 x,.int .i64 (j : Int),.bool true,.int .i64 (j : Int),u18,.int .u64 x,.int .i64 (j : Int),.int .i64 (8 * (j : Int)),.int .i64 (s : Int),.int .u64 (x / 2 ^ s),.int .u8 y,.slice (some ⟨h,0,none⟩) 1 1,u26,u27,undef,undef],defers := [] } W := by
          intro W kk nr h hc
          rw [← hR]
          have c3 := nr.box0
          refine wpAnyIn_ready (rs := [0]) (by kernel_rfl) (by simp) ?_
          refine AllReadyIn.cons rfl (fun K hK => ?_) ?_
          · go_simp
            exact hK _ _ (Uu _ _ _ _ (H2 W kk nr h hc))
          exact AllReadyIn.nil
        have H14 : ∀ (W : World) (kk : KeepsOthers V W) (nr : NumR w b len cap X m W),R 4 #[false,true,true,true,true,true,true,false,false,false] { tmps := #[.slice (some ⟨b,0,none⟩) len cap,undef,.pointer (some ⟨w.heap.size,0,none⟩),.pointer (some ⟨w.heap.size + 1 + 1,0,none⟩),undef,.int .u64 x,.int .i64 (j : Int),.slice (some ⟨b,0,none⟩) len cap,.int .i64 (len : Int),.int .i64 ((len : Int) * 8),.slice (some ⟨w.heap.size + 1,0,none⟩) 0 (8 * len),.slice (some ⟨b,0,none⟩) len cap,.func (.func 99) #[] #[.pointer (some ⟨w.heap.size + 1 + 1 + 1,0,none⟩)],.int .i64 (j0 : Int),.int .u64 x,.int .i64 (j : Int),.bool true,.int .i64 (j : Int),u18,.int .u64 x,.int .i64 (j : Int),.int .i64 (8 * (j : Int)),.int .i64 (s : Int),.int .u64 (x / 2 ^ s),.int .u8 y,u25,u26,u27,undef,undef],defers := [] } W := by
          intro W kk nr
          rw [← hR]
          have c3 := nr.box0
          refine wpAnyIn_ready (rs := [0,7]) (by kernel_rfl) (by simp) ?_
          refine AllReadyIn.cons rfl (fun K hK => ?_) ?_
          · go_simp
            exact hK _ _ (Uu _ _ _ _ (H3 W kk nr))
          refine AllReadyIn.cons rfl (fun K hK => ?_) ?_
          · go_simp
            exact hK _ _ (Uu _ _ _ _ (H13 (W.alloc (.cells #[.int .u8 y] 5)) (kk.trans (KeepsOthers.alloc _ _)) (nr.alloc _) W.heap.size (cellNew8 W y)))
          exact AllReadyIn.nil
        have H15 : ∀ (W : World) (kk : KeepsOthers V W) (nr : NumR w b len cap X m W),R 5 #[false,true,true,true,true,true,false,false,false,false] { tmps := #[.slice (some ⟨b,0,none⟩) len cap,undef,.pointer (some ⟨w.heap.size,0,none⟩),.pointer (some ⟨w.heap.size + 1 + 1,0,none⟩),undef,.int .u64 x,.int .i64 (j : Int),.slice (some ⟨b,0,none⟩) len cap,.int .i64 (len : Int),.int .i64 ((len : Int) * 8),.slice (some ⟨w.heap.size + 1,0,none⟩) 0 (8 * len),.slice (some ⟨b,0,none⟩) len cap,.func (.func 99) #[] #[.pointer (some ⟨w.heap.size + 1 + 1 + 1,0,none⟩)],.int .i64 (j0 : Int),.int .u64 x,.int .i64 (j : Int),.bool true,.int .i64 (j : Int),u18,.int .u64 x,.int .i64 (j : Int),.int .i64 (8 * (j : Int)),.int .i64 (s : Int),.int .u64 (x / 2 ^ s),u24,u25,u26,u27,undef,undef],defers := [] } W := by
          intro W kk nr
          rw [← hR]
          have c3 := nr.box0
          refine wpAnyIn_ready (rs := [0,6]) (by kernel_rfl) (by simp) ?_
          refine AllReadyIn.cons rfl (fun K hK => ?_) ?_
          · go_simp
            exact hK _ _ (Uu _ _ _ _ (H4 W kk nr))
          refine AllReadyIn.cons rfl (fun K hK => ?_) ?_
          · go_simp
            exact hK _ _ (Uu _ _ _ _ (H14 W kk nr))
          exact AllReadyIn.nil
        have H16 : ∀ (W : World) (kk : KeepsOthers V W) (nr : NumR w b len cap X m W),R 6 #[false,true,true,true,true,false,false,false,false,false] { tmps := #[.slice (some ⟨b,0,none⟩) len cap,undef,.pointer (some ⟨w.heap.size,0,none⟩),.pointer (some ⟨w.heap.size + 1 + 1,0,none⟩),undef,.int .u64 x,.int .i64 (j : Int),.slice (some ⟨b,0,none⟩) len cap,.int .i64 (len : Int),.int .i64 ((len : Int) * 8),.slice (some ⟨w.heap.size + 1,0,none⟩) 0 (8 * len),.slice (some ⟨b,0,none⟩) len cap,.func (.func 99) #[] #[.pointer (some ⟨w.heap.size + 1 + 1 + 1,0,none⟩)],.int .i64 (j0 : Int),.int .u64 x,.int .i64 (j : Int),.bool true,.int .i64 (j : Int),u18,.int .u64 x,.int .i64 (j : Int),.int .i64 (8 * (j : Int)),.int .i64 (s : Int),u23,u24,u25,u26,u27,undef,undef],defers := [] } W := by
          intro W kk nr
          rw [← hR]
          have c3 := nr.box0
          refine wpAnyIn_ready (rs := [0,5]) (by kernel_rfl) (by simp) ?_
          refine AllReadyIn.cons rfl (fun K hK => ?_) ?_
          · go_simp
            exact hK _ _ (Uu _ _ _ _ (H5 W kk nr))
          refine AllReadyIn.cons rfl (fun K hK => ?_) ?_
          · go_simp
            exact hK _ _ (Uu _ _ _ _ (H15 W kk nr))
          exact AllReadyIn.nil
        have H17 : ∀ (W : World) (kk : KeepsOthers V W) (nr : NumR w b len cap X m W),R 7 #[false,true,true,true,false,false,false,false,false,false] { tmps := #[.slice (some ⟨b,0,none⟩) len cap,undef,.pointer (some ⟨w.heap.size,0,none⟩),.pointer (some ⟨w.heap.size + 1 + 1,0,none⟩),undef,.int .u64 x,.int .i64 (j : Int),.slice (some ⟨b,0,none⟩) len cap,.int .i64 (len : Int),.int .i64 ((len : Int) * 8),.slice (some ⟨w.heap.size + 1,0,none⟩) 0 (8 * len),.slice (some ⟨b,0,none⟩) len cap,.func (.func 99) #[] #[.pointer (some ⟨w.heap.size + 1 + 1 + 1,0,none⟩)],.int .i64 (j0 : Int),.int .u64 x,.int .i64 (j : Int),.bool true,.int .i64 (j : Int),u18,.int .u64 x,.int .i64 (j : Int),.int .i64 (8 * (j : Int)),u22,u23,u24,u25,u26,u27,undef,undef],defers := [] } W := by
          intro W kk nr
          rw [← hR]
          have c3 := nr.box0
          refine wpAnyIn_ready (rs := [0,4]) (by kernel_rfl) (by simp) ?_
          refine AllReadyIn.cons rfl (fun K hK => ?_) ?_
          · go_simp
            exact hK _ _ (Uu _ _ _ _ (H6 W kk nr))
          refine AllReadyIn.cons rfl (fun K hK => ?_) ?_
          · go_simp
            exact hK _ _ (Uu _ _ _ _ (H16 W kk nr))
          exact AllReadyIn.nil
        have H18 : ∀ (W : World) (kk : KeepsOthers V W) (nr : NumR w b len cap X m W),R 8 #[false,true,true,false,false,false,false,false,false,false] { tmps := #[.slice (some ⟨b,0,none⟩) len cap,undef,.pointer (some ⟨w.heap.size,0,none⟩),.pointer (some ⟨w.heap.size + 1 + 1,0,none⟩),undef,.int .u64 x,.int .i64 (j : Int),.slice (some ⟨b,0,none⟩) len cap,.int .i64 (len : Int),.int .i64 ((len : Int) * 8),.slice (some ⟨w.heap.size + 1,0,none⟩) 0 (8 * len),.slice (some ⟨b,0,none⟩) len cap,.func (.func 99) #[] #[.pointer (some ⟨w.heap.size + 1 + 1 + 1,0,none⟩)],.int .i64 (j0 : Int),.int .u64 x,.int .i64 (j : Int),.bool true,.int .i64 (j : Int),u18,.int .u64 x,.int .i64 (j : Int),u21,u22,u23,u24,u25,u26,u27,undef,undef],defers := [] } W := by
          intro W kk nr
          rw [← hR]
          have c3 := nr.box0
          refine wpAnyIn_ready (rs := [0,3]) (by kernel_rfl) (by simp) ?_
          refine AllReadyIn.cons rfl (fun K hK => ?_) ?_
          · go_simp
            exact hK _ _ (Uu _ _ _ _ (H7 W kk nr))
          refine AllReadyIn.cons rfl (fun K hK => ?_) ?_
          · go_simp
            exact hK _ _ (Uu _ _ _ _ (H17 W kk nr))
          exact AllReadyIn.nil
        have H19 : ∀ (W : World) (kk : KeepsOthers V W) (nr : NumR w b len cap X m W),R 9 #[false,true,false,false,false,false,false,false,false,false] { tmps := #[.slice (some ⟨b,0,none⟩) len cap,undef,.pointer (some ⟨w.heap.size,0,none⟩),.pointer (some ⟨w.heap.size + 1 + 1,0,none⟩),undef,.int .u64 x,.int .i64 (j : Int),.slice (some ⟨b,0,none⟩) len cap,.int .i64 (len : Int),.int .i64 ((len : Int) * 8),.slice (some ⟨w.heap.size + 1,0,none⟩) 0 (8 * len),.slice (some ⟨b,0,none⟩) len cap,.func (.func 99) #[] #[.pointer (some ⟨w.heap.size + 1 + 1 + 1,0,none⟩)],.int .i64 (j0 : Int),.int .u64 x,.int .i64 (j : Int),.bool true,.int .i64 (j : Int),u18,.int .u64 x,u20,u21,u22,u23,u24,u25,u26,u27,undef,undef],defers := [] } W := by
          intro W kk nr
          rw [← hR]
          have c3 := nr.box0
          refine wpAnyIn_ready (rs := [0,2]) (by kernel_rfl) (by simp) ?_
          refine AllReadyIn.cons rfl (fun K hK => ?_) ?_
          · go_simp
            exact hK _ _ (Uu _ _ _ _ (H8 W kk nr))
          refine AllReadyIn.cons rfl (fun K hK => ?_) ?_
          · go_simp
            exact hK _ _ (Uu _ _ _ _ (H18 W kk nr))
          exact AllReadyIn.nil
        have H20 : ∀ (W : World) (kk : KeepsOthers V W) (nr : NumR w b len cap X m W),R 7 #[false,false,true,true,true,false,false,false,false,false] { tmps := #[.slice (some ⟨b,0,none⟩) len cap,undef,.pointer (some ⟨w.heap.size,0,none⟩),.pointer (some ⟨w.heap.size + 1 + 1,0,none⟩),undef,.int .u64 x,.int .i64 (j : Int),.slice (some ⟨b,0,none⟩) len cap,.int .i64 (len : Int),.int .i64 ((len : Int) * 8),.slice (some ⟨w.heap.size + 1,0,none⟩) 0 (8 * len),.slice (some ⟨b,0,none⟩) len cap,.func (.func 99) #[] #[.pointer (some ⟨w.heap.size + 1 + 1 + 1,0,none⟩)],.int .i64 (j0 : Int),.int .u64 x,.int .i64 (j : Int),.bool true,.int .i64 (j : Int),u18,u19,.int .i64 (j : Int),.int .i64 (8 * (j : Int)),.int .i64 (s : Int),u23,u24,u25,u26,u27,undef,undef],defers := [] } W := by
          intro W kk nr
          rw [← hR]
          have c3 := nr.box0
          refine wpAnyIn_ready (rs := [0,1]) (by kernel_rfl) (by simp) ?_
          refine AllReadyIn.cons rfl (fun K hK => ?_) ?_
          · go_simp
            exact hK _ _ (Uu _ _ _ _ (H9 W kk nr))
          refine AllReadyIn.cons rfl (fun K hK => ?_) ?_
          · go_simp
            exact hK _ _ (Uu _ _ _ _ (H16 W kk nr))
          exact AllReadyIn.nil
        have H21 : ∀ (W : World) (kk : KeepsOthers V W) (nr : NumR w b len cap X m W),R 8 #[false,false,true,true,false,false,false,false,false,false] { tmps := #[.slice (some ⟨b,0,none⟩) len cap,undef,.pointer (some ⟨w.heap.size,0,none⟩),.pointer (some ⟨w.heap.size + 1 + 1,0,none⟩),undef,.int .u64 x,.int .i64 (j : Int),.slice (some ⟨b,0,none⟩) len cap,.int .i64 (len : Int),.int .i64 ((len : Int) * 8),.slice (some ⟨w.heap.size + 1,0,none⟩) 0 (8 * len),.slice (some ⟨b,0,none⟩) len cap,.func (.func 99) #[] #[.pointer (some ⟨w.heap.size + 1 + 1 + 1,0,none⟩)],.int .i64 (j0 : Int),.int .u64 x,.int .i64 (j : Int),.bool true,.int .i64 (j : Int),u18,u19,.int .i64 (j : Int),.int .i64 (8 * (j : Int)),u22,u23,u24,u25,u26,u27,undef,undef],defers := [] } W := by
          intro W kk nr
          rw [← hR]
          have c3 := nr.box0
          refine wpAnyIn_ready (rs := [0,1,4]) (by kernel_rfl) (by simp) ?_
          refine AllReadyIn.cons rfl (fun K hK => ?_) ?_
          · go_simp
            exact hK _ _ (Uu _ _ _ _ (H10 W kk nr))
          refine AllReadyIn.cons rfl (fun K hK => ?_) ?_
          · go_simp
            exact hK _ _ (Uu _ _ _ _ (H17 W kk nr))
          refine AllReadyIn.cons rfl (fun K hK => ?_) ?_
          · go_simp
            exact hK _ _ (Uu _ _ _ _ (H20 W kk nr))
          exact AllReadyIn.nil
        have H22 : ∀ (W : World) (kk : KeepsOthers V W) (nr : NumR w b len cap X m W),R 9 #[false,false,true,false,false,false,false,false,false,false] { tmps := #[.slice (some ⟨b,0,none⟩) len cap,undef,.pointer (some ⟨w.heap.size,0,none⟩),.pointer (some ⟨w.heap.size + 1 + 1,0,none⟩),undef,.int .u64 x,.int .i64 (j : Int),.slice (some ⟨b,0,none⟩) len cap,.int .i64 (len : Int),.int .i64 ((len : Int) * 8),.slice (some ⟨w.heap.size + 1,0,none⟩) 0 (8 * len),.slice (some ⟨b,0,none⟩) len cap,.func (.func 99) #[] #[.pointer (some ⟨w.heap.size + 1 + 1 + 1,0,none⟩)],.int .i64 (j0 : Int),.int .u64 x,.int .i64 (j : Int),.bool true,.int .i64 (j : Int),u18,u19,.int .i64 (j : Int),u21,u22,u23,u24,u25,u26,u27,undef,undef],defers := [] } W := by
          intro W kk nr
          rw [← hR]
          have c3 := nr.box0
          refine wpAnyIn_ready (rs := [0,1,3]) (by kernel_rfl) (by simp) ?_
          refine AllReadyIn.cons rfl (fun K hK => ?_) ?_
          · go_simp
            exact hK _ _ (Uu _ _ _ _ (H11 W kk nr))
          refine AllReadyIn.cons rfl (fun K hK => ?_) ?_
          · go_simp
            exact hK _ _ (Uu _ _ _ _ (H18 W kk nr))
          refine AllReadyIn.cons rfl (fun K hK => ?_) ?_
          · go_simp
            exact hK _ _ (Uu _ _ _ _ (H21 W kk nr))
          exact AllReadyIn.nil
        have H23 : ∀ (W : World) (kk : KeepsOthers V W) (nr : NumR w b len cap X m W),R 10 #[false,false,false,false,false,false,false,false,false,false] { tmps := #[.slice (some ⟨b,0,none⟩) len cap,undef,.pointer (some ⟨w.heap.size,0,none⟩),.pointer (some ⟨w.heap.size + 1 + 1,0,none⟩),undef,.int .u64 x,.int .i64 (j : Int),.slice (some ⟨b,0,none⟩) len cap,.int .i64 (len : Int),.int .i64 ((len : Int) * 8),.slice (some ⟨w.heap.size + 1,0,none⟩) 0 (8 * len),.slice (some ⟨b,0,none⟩) len cap,.func (.func 99) #[] #[.pointer (some ⟨w.heap.size + 1 + 1 + 1,0,none⟩)],.int .i64 (j0 : Int),.int .u64 x,.int .i64 (j : Int),.bool true,.int .i64 (j : Int),u18,u19,u20,u21,u22,u23,u24,u25,u26,u27,undef,undef],defers := [] } W := by
          intro W kk nr
          rw [← hR]
          have c3 := nr.box0
          refine wpAnyIn_ready (rs := [0,1,2]) (by kernel_rfl) (by simp) ?_
          refine AllReadyIn.cons rfl (fun K hK => ?_) ?_
          · go_simp
            exact hK _ _ (Uu _ _ _ _ (H12 W kk nr))
          refine AllReadyIn.cons rfl (fun K hK => ?_) ?_
          · go_simp
            exact hK _ _ (Uu _ _ _ _ (H19 W kk nr))
          refine AllReadyIn.cons rfl (fun K hK => ?_) ?_
          · go_simp
            exact hK _ _ (Uu _ _ _ _ (H22 W kk nr))
          exact AllReadyIn.nil
        exact H23 wr.drew (hkk.trans (KeepsOthers.drew _)) hr.drew
      · obtain rfl : j = 8 := by omega
        gi_wp2
        exact ⟨hkk.from _,goal _ hr⟩
  case done =>
    rintro D W hD ⟨hak,h0,h2,h3,hg⟩ hK
    have hlt := (Array.getElem?_eq_some_iff.1 hK).1
    obtain ⟨m,hm8⟩ : ∃ m,8 * len = m + 1 := ⟨8 * len - 1,by omega⟩
    rw [Nat.sub_self,Nat.sub_self,List.replicate_zero,List.append_nil] at hak
    obtain ⟨s0,sb⟩ := seg_bd hw 0 len (by rw [← Hl.out]; omega)
    rw [pw_256] at sb
    rw [hm8] at hak h2 sb
    have fr := from_any (w.heap.size + 1) 5 m (m + 1) (be (seg l 0 len) (m + 1)) (seg l 0 len) W hak (by rw [be_length]; exact Nat.le_refl _) (Nat.le_refl _) (by omega) (by omega) s0 sb (fun j hj => by rw [be_getD _ _ _ hj,Nat.add_sub_cancel])
    obtain ⟨X,hX⟩ : ∃ X,seg l 0 len = X := ⟨_,rfl⟩
    rw [hX] at fr
    have HX := Lib.hid hX
    clear hX
    have bx : W.cell? ⟨w.heap.size + 1 + 1,0,none⟩ = some (.slice (some ⟨w.heap.size + 1,0,none⟩) (m + 1) (m + 1)) := by rw [cell_of_row W _ 0 _ _ (0,0) h2]; rfl
    have v0 : Var W w.heap.size (.int .u64 0) (.slice none 0 0) := ⟨h0,_,_,_,rfl⟩
    gi_wp2_with (refine ⟨trivial,?_⟩; gi_at_call 87; refine (callsIn_wide.2 fr).mono ?_; rintro e W2 ⟨v,rfl,hv,hb⟩; obtain ⟨va,vp,vl,vc,rfl⟩ := hv.shape; have v2 := v0.below hb v0.lt; have c0 := v2.c0; have c1 := v2.c1; have f0 := v2.free 0; have f1 := v2.free 1)
    have hK2 : ((W2.setCell ⟨w.heap.size,0,none⟩ (.int .u64 va)).setCell ⟨w.heap.size,1,none⟩ (.slice vp vl vc)).heap[D]? = some (.deferred (some [])) := (heap_two (by omega) _ _).trans ((hb.block D hlt).trans hK)
    have r0 := v2.set (.int .u64 va) vp vl vc
    have hv2 := hv.two v2 (.int .u64 va) (.slice vp vl vc)
    have hbw := below_two (hg.trans (hb.mono hg.size)) (Nat.le_refl _) (.int .u64 va) (.slice vp vl vc)
    generalize (W2.setCell ⟨w.heap.size,0,none⟩ (.int .u64 va)).setCell ⟨w.heap.size,1,none⟩ (.slice vp vl vc) = Z at hK2 r0 hv2 hbw ⊢
    refine ⟨by simp,.inl ⟨_,_,rfl,run_takeDeferred hK2,?_⟩⟩
    have hp := grownBy_putObj' Z D (.deferred none)
    have hpr : ∀ r,some D = some r → ∃ o : Obj,Z.heap[r]? = some o ∧ o.isCells = false := fun r e => by cases e; exact ⟨_,hK2,rfl⟩
    have l2 := r0.grown hp (by simp; omega)
    refine ⟨.agg #[.int .u64 va,.slice vp vl vc],?_,_,rfl,by rw [HX.out]; exact hv2.putObj hp hpr,hbw.grown hp hbw.size (fun k e => by cases e; omega)⟩
    simp [results,Tryz.results50,asAddr,run_loadVar_nat l2]
end Go.Proofs.YtogildikglomkaaGreatDoor

namespace Go.Proofs.YtogildikglomkaaGreatDoor
open Go.RowKit
set_option linter.unusedVariables false

/-- A variable of two Ints,side by side. -/
def Row6 (w : World) (b : Nat) (t : TypeId) (v0 v1 v2 v3 v4 v5 : Value) : Prop := w.heap[b]? = some (.cells #[v0,v1,v2,v3,v4,v5] t (0,0))
section
variable {w w' : World} {b : Nat} {t : TypeId} {v0 v1 v2 v3 v4 v5 : Value}
theorem Row6.lt (h : Row6 w b t v0 v1 v2 v3 v4 v5) : b < w.heap.size := (Array.getElem?_eq_some_iff.1 h).1
theorem Row6.cell0 (h : Row6 w b t v0 v1 v2 v3 v4 v5) : w.cell? ⟨b,0,none⟩ = some v0 := by rw [cell_of_row w b 0 _ _ (0,0) h]; rfl
theorem Row6.cell1 (h : Row6 w b t v0 v1 v2 v3 v4 v5) : w.cell? ⟨b,1,none⟩ = some v1 := by rw [cell_of_row w b 1 _ _ (0,0) h]; rfl
theorem Row6.cell2 (h : Row6 w b t v0 v1 v2 v3 v4 v5) : w.cell? ⟨b,2,none⟩ = some v2 := by rw [cell_of_row w b 2 _ _ (0,0) h]; rfl
theorem Row6.cell3 (h : Row6 w b t v0 v1 v2 v3 v4 v5) : w.cell? ⟨b,3,none⟩ = some v3 := by rw [cell_of_row w b 3 _ _ (0,0) h]; rfl
theorem Row6.cell4 (h : Row6 w b t v0 v1 v2 v3 v4 v5) : w.cell? ⟨b,4,none⟩ = some v4 := by rw [cell_of_row w b 4 _ _ (0,0) h]; rfl
theorem Row6.cell5 (h : Row6 w b t v0 v1 v2 v3 v4 v5) : w.cell? ⟨b,5,none⟩ = some v5 := by rw [cell_of_row w b 5 _ _ (0,0) h]; rfl
theorem Row6.free (h : Row6 w b t v0 v1 v2 v3 v4 v5) (i : Nat) : w.frozen? ⟨b,i,none⟩ = false := frozen_of_row w b i _ _ h
theorem Row6.below {B : Nat} (h : Row6 w b t v0 v1 v2 v3 v4 v5) (hb : Below B w w') (hB : b < B) : Row6 w' b t v0 v1 v2 v3 v4 v5 := (hb.block b hB).trans h
theorem Row6.alloc (h : Row6 w b t v0 v1 v2 v3 v4 v5) (o : Obj) : Row6 (w.alloc o) b t v0 v1 v2 v3 v4 v5 := (heap_alloc_old w o h.lt).trans h
theorem Row6.drew (h : Row6 w b t v0 v1 v2 v3 v4 v5) : Row6 w.drew b t v0 v1 v2 v3 v4 v5 := h
theorem Row6.other (h : Row6 w b t v0 v1 v2 v3 v4 v5) {a : Addr} (ha : b ≠ a.block) (v : Value) : Row6 (w.setCell a v) b t v0 v1 v2 v3 v4 v5 := (heap_setCell_other w a b v ha).trans h
theorem Row6.set0 (h : Row6 w b t v0 v1 v2 v3 v4 v5) (x y z : Value) : Row6 (((w.setCell ⟨b,0,none⟩ x).setCell ⟨b,1,none⟩ y).setCell ⟨b,2,none⟩ z) b t x y z v3 v4 v5 := by
  have g1 := heap_setCell_same w b 0 _ _ x h
  have g2 := heap_setCell_same _ b 1 _ _ y g1
  have g3 := heap_setCell_same _ b 2 _ _ z g2
  exact g3
theorem Row6.set3 (h : Row6 w b t v0 v1 v2 v3 v4 v5) (x y z : Value) : Row6 (((w.setCell ⟨b,3,none⟩ x).setCell ⟨b,4,none⟩ y).setCell ⟨b,5,none⟩ z) b t v0 v1 v2 x y z := by
  have g1 := heap_setCell_same w b 3 _ _ x h
  have g2 := heap_setCell_same _ b 4 _ _ y g1
  have g3 := heap_setCell_same _ b 5 _ _ z g2
  exact g3
end
theorem below_new6 {B : Nat} (w : World) (o : Obj) (hB : B ≤ w.heap.size) : Below B w (w.alloc o) := (Below.refl B w).alloc hB o
theorem IsInt.belowB {w w' : World} {v : Value} {z : Int} (h : IsInt w v z) (hb : Below w.heap.size w w') : IsInt w' v z := h.below hb
theorem absI_mul_lt {a b : Int} {K : Nat} (ha : absI a < pw K) (hb : absI b < pw K) : absI (a * b) < pw (K + K) := by
  have e : absI (a * b) = absI a * absI b := by
    unfold absI
    by_cases h1 : a < 0 <;> by_cases h2 : b < 0
    · have := Int.mul_pos_of_neg_of_neg h1 h2
      rw [if_neg (by omega),if_pos h1,if_pos h2,Int.neg_mul_neg]
    · rw [if_pos h1,if_neg h2,Int.neg_mul]
      have := Int.mul_nonpos_of_nonpos_of_nonneg (Int.le_of_lt h1) (Int.not_lt.1 h2)
      split <;> omega
    · rw [if_neg h1,if_pos h2,Int.mul_neg]
      have := Int.mul_nonpos_of_nonneg_of_nonpos (Int.not_lt.1 h1) (Int.le_of_lt h2)
      split <;> omega
    · have := Int.mul_nonneg (Int.not_lt.1 h1) (Int.not_lt.1 h2)
      rw [if_neg (by omega),if_neg h1,if_neg h2]
  rw [e,pw_add]
  exact Int.lt_of_le_of_lt (Int.mul_le_mul_of_nonneg_left (Int.le_of_lt hb) (absI_nonneg a)) (Int.mul_lt_mul_of_pos_right ha (pw_pos K))
theorem IsNat.sets {w : World} {v : Value} {n : Int} {c i : Nat} {p : Option Addr} {m q : Nat} (h : IsNat w v n) (hc : w.cell? ⟨c,i,none⟩ = some (.slice p m q)) (i0 i1 i2 : Nat) (x y z : Value) : IsNat (((w.setCell ⟨c,i0,none⟩ x).setCell ⟨c,i1,none⟩ y).setCell ⟨c,i2,none⟩ z) v n := by
  rcases h with h | ⟨b,t,len,cap,l,hv,ha,r⟩
  · exact .inl h
  · have hne := ha.ne_slice hc
    exact .inr ⟨b,t,len,cap,l,hv,((ha.other (a := ⟨c,i0,none⟩) hne _).other (a := ⟨c,i1,none⟩) hne _).other (a := ⟨c,i2,none⟩) hne _,r⟩
/-- The value v is a pair of whole numbers. -/
def IsPair (w : World) (v : Value) (a b : Int) : Prop := ∃ u p l c x r m d,v = .agg #[.bool (decide (a < 0)),.int .u64 u,.slice p l c,.bool (decide (b < 0)),.int .u64 x,.slice r m d] ∧ IsNat w (.agg #[.int .u64 u,.slice p l c]) (absI a) ∧ IsNat w (.agg #[.int .u64 x,.slice r m d]) (absI b)
set_option maxRecDepth 100000 in
set_option maxHeartbeats 4000000 in
theorem by_pair (K : Nat) (hK : 1 ≤ K) (hK2 : K < 40) (P0 P1 A0 A1 B0 B1 : Int) (x0 x1 y0 y1 z0 z1 : Int) (p0 p1 q0 q1 r0 r1 : Option Addr) (l0 l1 m0 m1 n0 n1 c0 c1 d0 d1 e0 e1 : Nat) (w : World)
    (hp0 : IsInt w (.agg #[.bool (decide (P0 < 0)),.int .u64 x0,.slice p0 l0 c0]) P0) (hp1 : IsInt w (.agg #[.bool (decide (P1 < 0)),.int .u64 x1,.slice p1 l1 c1]) P1)
    (ha0 : IsInt w (.agg #[.bool (decide (A0 < 0)),.int .u64 y0,.slice q0 m0 d0]) A0) (ha1 : IsInt w (.agg #[.bool (decide (A1 < 0)),.int .u64 y1,.slice q1 m1 d1]) A1)
    (hb0 : IsInt w (.agg #[.bool (decide (B0 < 0)),.int .u64 z0,.slice r0 n0 e0]) B0) (hb1 : IsInt w (.agg #[.bool (decide (B1 < 0)),.int .u64 z1,.slice r1 n1 e1]) B1)
    (kp0 : absI P0 < pw K) (kp1 : absI P1 < pw K) (ka0 : absI A0 < pw K) (ka1 : absI A1 < pw K) (kb0 : absI B0 < pw K) (kb1 : absI B1 < pw K) :
    Calls Tryz.prog 48 #[.agg #[.bool (decide (P0 < 0)),.int .u64 x0,.slice p0 l0 c0,.bool (decide (P1 < 0)),.int .u64 x1,.slice p1 l1 c1],
      .agg #[.bool (decide (A0 < 0)),.int .u64 y0,.slice q0 m0 d0,.bool (decide (A1 < 0)),.int .u64 y1,.slice q1 m1 d1,.bool (decide (B0 < 0)),.int .u64 z0,.slice r0 n0 e0,.bool (decide (B1 < 0)),.int .u64 z1,.slice r1 n1 e1]] w
      fun e w' => ∃ v,e = .returned v ∧ IsPair w' v (P0 * A0 + P1 * A1) (P0 * B0 + P1 * B1) ∧ Below w.heap.size w w' := by
  generalize decide (P0 < 0) = s0 at *
  generalize decide (P1 < 0) = s1 at *
  generalize decide (A0 < 0) = t0 at *
  generalize decide (A1 < 0) = t1 at *
  generalize decide (B0 < 0) = u0 at *
  generalize decide (B1 < 0) = u1 at *
  have hW : Below w.heap.size w ((((w.alloc (.cells #[.bool s0,.int .u64 x0,.slice p0 l0 c0,.bool s1,.int .u64 x1,.slice p1 l1 c1] 88)).alloc (.cells #[.bool t0,.int .u64 y0,.slice q0 m0 d0,.bool t1,.int .u64 y1,.slice q1 m1 d1,.bool u0,.int .u64 z0,.slice r0 n0 e0,.bool u1,.int .u64 z1,.slice r1 n1 e1] 91)).alloc (.cells #[.bool false,.int .u64 0,.slice none 0 0,.bool false,.int .u64 0,.slice none 0 0] 88)).alloc (.cells #[.bool false,.int .u64 0,.slice none 0 0,.bool false,.int .u64 0,.slice none 0 0] 88)) := by go_grown
  have ix0 : ∀ w : World,(Instr.index 91 (.agg #[.bool t0,.int .u64 y0,.slice q0 m0 d0,.bool t1,.int .u64 y1,.slice q1 m1 d1,.bool u0,.int .u64 z0,.slice r0 n0 e0,.bool u1,.int .u64 z1,.slice r1 n1 e1]) (.int .i64 0)).run Tryz.prog w = .ok (.agg #[.bool t0,.int .u64 y0,.slice q0 m0 d0,.bool t1,.int .u64 y1,.slice q1 m1 d1]) w := fun _ => by kernel_rfl
  have ix1 : ∀ w : World,(Instr.index 91 (.agg #[.bool t0,.int .u64 y0,.slice q0 m0 d0,.bool t1,.int .u64 y1,.slice q1 m1 d1,.bool u0,.int .u64 z0,.slice r0 n0 e0,.bool u1,.int .u64 z1,.slice r1 n1 e1]) (.int .i64 1)).run Tryz.prog w = .ok (.agg #[.bool u0,.int .u64 z0,.slice r0 n0 e0,.bool u1,.int .u64 z1,.slice r1 n1 e1]) w := fun _ => by kernel_rfl
  have rP : Row6 ((((w.alloc (.cells #[.bool s0,.int .u64 x0,.slice p0 l0 c0,.bool s1,.int .u64 x1,.slice p1 l1 c1] 88)).alloc (.cells #[.bool t0,.int .u64 y0,.slice q0 m0 d0,.bool t1,.int .u64 y1,.slice q1 m1 d1,.bool u0,.int .u64 z0,.slice r0 n0 e0,.bool u1,.int .u64 z1,.slice r1 n1 e1] 91)).alloc (.cells #[.bool false,.int .u64 0,.slice none 0 0,.bool false,.int .u64 0,.slice none 0 0] 88)).alloc (.cells #[.bool false,.int .u64 0,.slice none 0 0,.bool false,.int .u64 0,.slice none 0 0] 88)) w.heap.size 88 (.bool s0) (.int .u64 x0) (.slice p0 l0 c0) (.bool s1) (.int .u64 x1) (.slice p1 l1 c1) := (heap_old _ _ _ (by simp; omega)).trans ((heap_old _ _ _ (by simp; omega)).trans ((heap_old _ _ _ (by simp)).trans (heap_new _ _ _ rfl)))
  have rR : Row6 ((((w.alloc (.cells #[.bool s0,.int .u64 x0,.slice p0 l0 c0,.bool s1,.int .u64 x1,.slice p1 l1 c1] 88)).alloc (.cells #[.bool t0,.int .u64 y0,.slice q0 m0 d0,.bool t1,.int .u64 y1,.slice q1 m1 d1,.bool u0,.int .u64 z0,.slice r0 n0 e0,.bool u1,.int .u64 z1,.slice r1 n1 e1] 91)).alloc (.cells #[.bool false,.int .u64 0,.slice none 0 0,.bool false,.int .u64 0,.slice none 0 0] 88)).alloc (.cells #[.bool false,.int .u64 0,.slice none 0 0,.bool false,.int .u64 0,.slice none 0 0] 88)) (w.heap.size + 1 + 1) 88 (.bool false) (.int .u64 0) (.slice none 0 0) (.bool false) (.int .u64 0) (.slice none 0 0) := (heap_old _ _ _ (by simp)).trans (heap_new _ _ _ (by simp))
  have rB : Row6 ((((w.alloc (.cells #[.bool s0,.int .u64 x0,.slice p0 l0 c0,.bool s1,.int .u64 x1,.slice p1 l1 c1] 88)).alloc (.cells #[.bool t0,.int .u64 y0,.slice q0 m0 d0,.bool t1,.int .u64 y1,.slice q1 m1 d1,.bool u0,.int .u64 z0,.slice r0 n0 e0,.bool u1,.int .u64 z1,.slice r1 n1 e1] 91)).alloc (.cells #[.bool false,.int .u64 0,.slice none 0 0,.bool false,.int .u64 0,.slice none 0 0] 88)).alloc (.cells #[.bool false,.int .u64 0,.slice none 0 0,.bool false,.int .u64 0,.slice none 0 0] 88)) (w.heap.size + 1 + 1 + 1) 88 (.bool false) (.int .u64 0) (.slice none 0 0) (.bool false) (.int .u64 0) (.slice none 0 0) := heap_new _ _ _ (by simp)
  go_enter Tryz.func48,Tryz.ntmps48
  go_wp2_with fail
  generalize ((((w.alloc (.cells #[.bool s0,.int .u64 x0,.slice p0 l0 c0,.bool s1,.int .u64 x1,.slice p1 l1 c1] 88)).alloc (.cells #[.bool t0,.int .u64 y0,.slice q0 m0 d0,.bool t1,.int .u64 y1,.slice q1 m1 d1,.bool u0,.int .u64 z0,.slice r0 n0 e0,.bool u1,.int .u64 z1,.slice r1 n1 e1] 91)).alloc (.cells #[.bool false,.int .u64 0,.slice none 0 0,.bool false,.int .u64 0,.slice none 0 0] 88)).alloc (.cells #[.bool false,.int .u64 0,.slice none 0 0,.bool false,.int .u64 0,.slice none 0 0] 88)) = W at hW rP rR rB ⊢
  obtain ⟨q,hq⟩ : ∃ q,w.heap.size = q := ⟨_,rfl⟩
  rw [hq] at rP rR rB ⊢
  go_loopg [9] 2 (fun g i wr => Below w.heap.size w wr ∧ Row6 wr q 88 (.bool s0) (.int .u64 x0) (.slice p0 l0 c0) (.bool s1) (.int .u64 x1) (.slice p1 l1 c1) ∧ Row6 wr (q + 1 + 1) 88 (.bool false) (.int .u64 0) (.slice none 0 0) (.bool false) (.int .u64 0) (.slice none 0 0) ∧ ((g = 2 ∧ i = .int .i64 0 ∧ Row6 wr (q + 1 + 1 + 1) 88 (.bool false) (.int .u64 0) (.slice none 0 0) (.bool false) (.int .u64 0) (.slice none 0 0)) ∨ (∃ u p l c,(g = 1 ∧ i = .int .i64 1 ∧ Row6 wr (q + 1 + 1 + 1) 88 (.bool (decide (P0 * A0 + P1 * A1 < 0))) (.int .u64 u) (.slice p l c) (.bool false) (.int .u64 0) (.slice none 0 0) ∧ IsNat wr (.agg #[.int .u64 u,.slice p l c]) (absI (P0 * A0 + P1 * A1)))) ∨ (∃ u p l c x r m d,g = 0 ∧ i = .int .i64 2 ∧ Row6 wr (q + 1 + 1 + 1) 88 (.bool (decide (P0 * A0 + P1 * A1 < 0))) (.int .u64 u) (.slice p l c) (.bool (decide (P0 * B0 + P1 * B1 < 0))) (.int .u64 x) (.slice r m d) ∧ IsNat wr (.agg #[.int .u64 u,.slice p l c]) (absI (P0 * A0 + P1 * A1)) ∧ IsNat wr (.agg #[.int .u64 x,.slice r m d]) (absI (P0 * B0 + P1 * B1)))))
  case atStart => exact ⟨hW,rP,rR,.inl ⟨rfl,rfl,rB⟩⟩
  case round =>
    obtain ⟨hB,hP,hR,⟨rfl,rfl,hr⟩ | ⟨u,p,l,c,rfl,rfl,hr,hn⟩ | ⟨u,p,l,c,x,r,m,d,rfl,rfl,hr,hn,hn2⟩⟩ := hrel
    · have lbe : q + 1 + 1 + 1 < wr.heap.size := hr.lt
      have rP := hP.alloc (.cells #[.bool t0,.int .u64 y0,.slice q0 m0 d0,.bool t1,.int .u64 y1,.slice q1 m1 d1] 87)
      have rB := hr.alloc (.cells #[.bool t0,.int .u64 y0,.slice q0 m0 d0,.bool t1,.int .u64 y1,.slice q1 m1 d1] 87)
      have rR := hR.alloc (.cells #[.bool t0,.int .u64 y0,.slice q0 m0 d0,.bool t1,.int .u64 y1,.slice q1 m1 d1] 87)
      have rL : Row6 (wr.alloc (.cells #[.bool t0,.int .u64 y0,.slice q0 m0 d0,.bool t1,.int .u64 y1,.slice q1 m1 d1] 87)) wr.heap.size 87 (.bool t0) (.int .u64 y0) (.slice q0 m0 d0) (.bool t1) (.int .u64 y1) (.slice q1 m1 d1) := heap_new wr _ _ rfl
      have hB5 := hB.trans (below_new6 wr (.cells #[.bool t0,.int .u64 y0,.slice q0 m0 d0,.bool t1,.int .u64 y1,.slice q1 m1 d1] 87) hB.size)

      clear hP hr hR hB
      go_wp2_with fail
      generalize (wr.alloc (.cells #[.bool t0,.int .u64 y0,.slice q0 m0 d0,.bool t1,.int .u64 y1,.slice q1 m1 d1] 87)) = W5 at rP rB rR rL hB5  ⊢
      generalize wr.heap.size = lb at rL lbe ⊢
      have mulA : ∀ W',Below W5.heap.size W5 W' → Calls Tryz.prog 34 #[.agg #[.bool s0,.int .u64 x0,.slice p0 l0 c0],.agg #[.bool t0,.int .u64 y0,.slice q0 m0 d0]] W' (RetInt (P0 * A0) W') := fun W' hb => mul_int K hK hK2 _ _ P0 A0 W' ((hp0.belowB hB5).below hb) ((ha0.belowB hB5).below hb) kp0 ka0
      have mulB : ∀ W',Below W5.heap.size W5 W' → Calls Tryz.prog 34 #[.agg #[.bool s1,.int .u64 x1,.slice p1 l1 c1],.agg #[.bool t1,.int .u64 y1,.slice q1 m1 d1]] W' (RetInt (P1 * A1) W') := fun W' hb => mul_int K hK hK2 _ _ P1 A1 W' ((hp1.belowB hB5).below hb) ((ha1.belowB hB5).below hb) kp1 ka1
      have addC : ∀ va vb W',IsInt W' va (P0 * A0) → IsInt W' vb (P1 * A1) → Calls Tryz.prog 35 #[va,vb] W' (RetInt (P0 * A0 + P1 * A1) W') := fun va vb W' h1 h2 => add_int (K + K) (by omega) (by omega) va vb _ _ W' h1 h2 (absI_mul_lt kp0 ka0) (absI_mul_lt kp1 ka1)
      obtain ⟨R,hRe⟩ : ∃ R,P0 * A0 + P1 * A1 = R := ⟨_,rfl⟩
      rw [hRe] at addC
      have HR := Lib.hid hRe
      clear hRe
      generalize P0 * A0 = M0 at mulA addC
      generalize P1 * A1 = M1 at mulB addC
      have zP := rP.lt
      have zL := rL.lt
      have zB := rB.lt
      have zR := rR.lt
      have dP : q ≠ q + 1 + 1 + 1 := by omega
      have dR : q + 1 + 1 ≠ q + 1 + 1 + 1 := by omega
      have hqw : w.heap.size ≤ q + 1 + 1 + 1 := by omega
      have dL : lb ≠ q + 1 + 1 + 1 := by omega
      have acc := Below.refl W5.heap.size W5
      have a0 := (rP.below acc zP).cell0
      have a1 := (rP.below acc zP).cell1
      have a2 := (rP.below acc zP).cell2
      have a3 := (rP.below acc zP).cell3
      have a4 := (rP.below acc zP).cell4
      have a5 := (rP.below acc zP).cell5
      have b0 := (rL.below acc zL).cell0
      have b1 := (rL.below acc zL).cell1
      have b2 := (rL.below acc zL).cell2
      have b3 := (rL.below acc zL).cell3
      have b4 := (rL.below acc zL).cell4
      have b5 := (rL.below acc zL).cell5
      have g0 := (rB.below acc zB).cell0
      have g1 := (rB.below acc zB).cell1
      have g2 := (rB.below acc zB).cell2
      have f0 := (rB.below acc zB).free 0
      have f1 := (rB.below acc zB).free 1
      have f2 := (rB.below acc zB).free 2
      go_region_held3 (fun w' => w'.cell? ⟨q,0,none⟩ = some (.bool s0) ∧ w'.cell? ⟨q,1,none⟩ = some (.int .u64 x0) ∧ w'.cell? ⟨q,2,none⟩ = some (.slice p0 l0 c0) ∧ w'.cell? ⟨q,3,none⟩ = some (.bool s1) ∧ w'.cell? ⟨q,4,none⟩ = some (.int .u64 x1) ∧ w'.cell? ⟨q,5,none⟩ = some (.slice p1 l1 c1) ∧ w'.cell? ⟨lb,0,none⟩ = some (.bool t0) ∧ w'.cell? ⟨lb,1,none⟩ = some (.int .u64 y0) ∧ w'.cell? ⟨lb,2,none⟩ = some (.slice q0 m0 d0) ∧ w'.cell? ⟨lb,3,none⟩ = some (.bool t1) ∧ w'.cell? ⟨lb,4,none⟩ = some (.int .u64 y1) ∧ w'.cell? ⟨lb,5,none⟩ = some (.slice q1 m1 d1))
        (first | with_reducible exact ⟨(rP.below acc zP).cell0,(rP.below acc zP).cell1,(rP.below acc zP).cell2,(rP.below acc zP).cell3,(rP.below acc zP).cell4,(rP.below acc zP).cell5,(rL.below acc zL).cell0,(rL.below acc zL).cell1,(rL.below acc zL).cell2,(rL.below acc zL).cell3,(rL.below acc zL).cell4,(rL.below acc zL).cell5⟩ | with_reducible exact ⟨(rP.below acc zP).drew.cell0,(rP.below acc zP).drew.cell1,(rP.below acc zP).drew.cell2,(rP.below acc zP).drew.cell3,(rP.below acc zP).drew.cell4,(rP.below acc zP).drew.cell5,(rL.below acc zL).drew.cell0,(rL.below acc zL).drew.cell1,(rL.below acc zL).drew.cell2,(rL.below acc zL).drew.cell3,(rL.below acc zL).drew.cell4,(rL.below acc zL).drew.cell5⟩ | with_reducible exact ⟨((((rP.below acc zP).other (a := ⟨q + 1 + 1 + 1,0,none⟩) dP _).other (a := ⟨q + 1 + 1 + 1,1,none⟩) dP _).other (a := ⟨q + 1 + 1 + 1,2,none⟩) dP _).cell0,((((rP.below acc zP).other (a := ⟨q + 1 + 1 + 1,0,none⟩) dP _).other (a := ⟨q + 1 + 1 + 1,1,none⟩) dP _).other (a := ⟨q + 1 + 1 + 1,2,none⟩) dP _).cell1,((((rP.below acc zP).other (a := ⟨q + 1 + 1 + 1,0,none⟩) dP _).other (a := ⟨q + 1 + 1 + 1,1,none⟩) dP _).other (a := ⟨q + 1 + 1 + 1,2,none⟩) dP _).cell2,((((rP.below acc zP).other (a := ⟨q + 1 + 1 + 1,0,none⟩) dP _).other (a := ⟨q + 1 + 1 + 1,1,none⟩) dP _).other (a := ⟨q + 1 + 1 + 1,2,none⟩) dP _).cell3,((((rP.below acc zP).other (a := ⟨q + 1 + 1 + 1,0,none⟩) dP _).other (a := ⟨q + 1 + 1 + 1,1,none⟩) dP _).other (a := ⟨q + 1 + 1 + 1,2,none⟩) dP _).cell4,((((rP.below acc zP).other (a := ⟨q + 1 + 1 + 1,0,none⟩) dP _).other (a := ⟨q + 1 + 1 + 1,1,none⟩) dP _).other (a := ⟨q + 1 + 1 + 1,2,none⟩) dP _).cell5,((((rL.below acc zL).other (a := ⟨q + 1 + 1 + 1,0,none⟩) dL _).other (a := ⟨q + 1 + 1 + 1,1,none⟩) dL _).other (a := ⟨q + 1 + 1 + 1,2,none⟩) dL _).cell0,((((rL.below acc zL).other (a := ⟨q + 1 + 1 + 1,0,none⟩) dL _).other (a := ⟨q + 1 + 1 + 1,1,none⟩) dL _).other (a := ⟨q + 1 + 1 + 1,2,none⟩) dL _).cell1,((((rL.below acc zL).other (a := ⟨q + 1 + 1 + 1,0,none⟩) dL _).other (a := ⟨q + 1 + 1 + 1,1,none⟩) dL _).other (a := ⟨q + 1 + 1 + 1,2,none⟩) dL _).cell2,((((rL.below acc zL).other (a := ⟨q + 1 + 1 + 1,0,none⟩) dL _).other (a := ⟨q + 1 + 1 + 1,1,none⟩) dL _).other (a := ⟨q + 1 + 1 + 1,2,none⟩) dL _).cell3,((((rL.below acc zL).other (a := ⟨q + 1 + 1 + 1,0,none⟩) dL _).other (a := ⟨q + 1 + 1 + 1,1,none⟩) dL _).other (a := ⟨q + 1 + 1 + 1,2,none⟩) dL _).cell4,((((rL.below acc zL).other (a := ⟨q + 1 + 1 + 1,0,none⟩) dL _).other (a := ⟨q + 1 + 1 + 1,1,none⟩) dL _).other (a := ⟨q + 1 + 1 + 1,2,none⟩) dL _).cell5⟩)
        (first
          | (go_at_call 34; (first | (have q1 := mulA _ acc; (with_reducible refine q1.mono ?_); clear q1) | (have q1 := mulA _ acc.drew; (with_reducible refine q1.mono ?_); clear q1)); rintro e wa ⟨v1,rfl,h1,hb⟩; (first | replace h2 := h2.below hb | replace h2 := h2.drew.below hb | skip); (first | replace acc := below_acc acc acc.size hb | replace acc := below_accD acc acc.size hb); have a0 := (rP.below acc zP).cell0; have a1 := (rP.below acc zP).cell1; have a2 := (rP.below acc zP).cell2; have a3 := (rP.below acc zP).cell3; have a4 := (rP.below acc zP).cell4; have a5 := (rP.below acc zP).cell5; have b0 := (rL.below acc zL).cell0; have b1 := (rL.below acc zL).cell1; have b2 := (rL.below acc zL).cell2; have b3 := (rL.below acc zL).cell3; have b4 := (rL.below acc zL).cell4; have b5 := (rL.below acc zL).cell5; have g0 := (rB.below acc zB).cell0; have g1 := (rB.below acc zB).cell1; have g2 := (rB.below acc zB).cell2; have f0 := (rB.below acc zB).free 0; have f1 := (rB.below acc zB).free 1; have f2 := (rB.below acc zB).free 2; clear hb)
          | (go_at_call 34; (first | (have q1 := mulB _ acc; (with_reducible refine q1.mono ?_); clear q1) | (have q1 := mulB _ acc.drew; (with_reducible refine q1.mono ?_); clear q1)); rintro e wb ⟨v2,rfl,h2,hb⟩; (first | replace h1 := h1.below hb | replace h1 := h1.drew.below hb | skip); (first | replace acc := below_acc acc acc.size hb | replace acc := below_accD acc acc.size hb); have a0 := (rP.below acc zP).cell0; have a1 := (rP.below acc zP).cell1; have a2 := (rP.below acc zP).cell2; have a3 := (rP.below acc zP).cell3; have a4 := (rP.below acc zP).cell4; have a5 := (rP.below acc zP).cell5; have b0 := (rL.below acc zL).cell0; have b1 := (rL.below acc zL).cell1; have b2 := (rL.below acc zL).cell2; have b3 := (rL.below acc zL).cell3; have b4 := (rL.below acc zL).cell4; have b5 := (rL.below acc zL).cell5; have g0 := (rB.below acc zB).cell0; have g1 := (rB.below acc zB).cell1; have g2 := (rB.below acc zB).cell2; have f0 := (rB.below acc zB).free 0; have f1 := (rB.below acc zB).free 1; have f2 := (rB.below acc zB).free 2; clear hb)
          | (go_at_call 35; (first | (have q1 := addC _ _ _ h1 h2; (with_reducible refine q1.mono ?_); clear q1) | (have q1 := addC _ _ _ h1.drew h2.drew; (with_reducible refine q1.mono ?_); clear q1)); rintro e wc ⟨v3,rfl,⟨x3,p3,l3,c3,rfl,hn3⟩,hb⟩; (first | replace acc := below_acc acc acc.size hb | replace acc := below_accD acc acc.size hb); have a0 := (rP.below acc zP).cell0; have a1 := (rP.below acc zP).cell1; have a2 := (rP.below acc zP).cell2; have a3 := (rP.below acc zP).cell3; have a4 := (rP.below acc zP).cell4; have a5 := (rP.below acc zP).cell5; have b0 := (rL.below acc zL).cell0; have b1 := (rL.below acc zL).cell1; have b2 := (rL.below acc zL).cell2; have b3 := (rL.below acc zL).cell3; have b4 := (rL.below acc zL).cell4; have b5 := (rL.below acc zL).cell5; have g0 := (rB.below acc zB).cell0; have g1 := (rB.below acc zB).cell1; have g2 := (rB.below acc zB).cell2; have f0 := (rB.below acc zB).free 0; have f1 := (rB.below acc zB).free 1; have f2 := (rB.below acc zB).free 2; clear hb))
      all_goals
        have gB := (rB.below acc zB).set0 (.bool (decide (R < 0))) (.int .u64 x3) (.slice p3 l3 c3)
        have gP := ((((rP.below acc zP).other (a := ⟨q + 1 + 1 + 1,0,none⟩) dP (.bool (decide (R < 0)))).other (a := ⟨q + 1 + 1 + 1,1,none⟩) dP (.int .u64 x3)).other (a := ⟨q + 1 + 1 + 1,2,none⟩) dP (.slice p3 l3 c3))
        have gR := ((((rR.below acc zR).other (a := ⟨q + 1 + 1 + 1,0,none⟩) dR (.bool (decide (R < 0)))).other (a := ⟨q + 1 + 1 + 1,1,none⟩) dR (.int .u64 x3)).other (a := ⟨q + 1 + 1 + 1,2,none⟩) dR (.slice p3 l3 c3))
        have gn := hn3.sets (rB.below acc zB).cell2 0 1 2 (.bool (decide (R < 0))) (.int .u64 x3) (.slice p3 l3 c3)
        have gW := (((hB5.trans (acc.mono hB5.size)).setCell (p := ⟨q + 1 + 1 + 1,0,none⟩) hqw (.bool (decide (R < 0)))).setCell (p := ⟨q + 1 + 1 + 1,1,none⟩) hqw (.int .u64 x3)).setCell (p := ⟨q + 1 + 1 + 1,2,none⟩) hqw (.slice p3 l3 c3)
        go_wp2_with fail
        go_roundg 1
        case measure => omega
        case rel => exact ⟨gW,gP,gR,.inr (.inl ⟨x3,p3,l3,c3,rfl,rfl,by rw [HR.out]; exact gB,by rw [HR.out]; exact gn⟩)⟩
    · have lbe : q + 1 + 1 + 1 < wr.heap.size := hr.lt
      have rP := hP.alloc (.cells #[.bool u0,.int .u64 z0,.slice r0 n0 e0,.bool u1,.int .u64 z1,.slice r1 n1 e1] 87)
      have rB := hr.alloc (.cells #[.bool u0,.int .u64 z0,.slice r0 n0 e0,.bool u1,.int .u64 z1,.slice r1 n1 e1] 87)
      have rR := hR.alloc (.cells #[.bool u0,.int .u64 z0,.slice r0 n0 e0,.bool u1,.int .u64 z1,.slice r1 n1 e1] 87)
      have rL : Row6 (wr.alloc (.cells #[.bool u0,.int .u64 z0,.slice r0 n0 e0,.bool u1,.int .u64 z1,.slice r1 n1 e1] 87)) wr.heap.size 87 (.bool u0) (.int .u64 z0) (.slice r0 n0 e0) (.bool u1) (.int .u64 z1) (.slice r1 n1 e1) := heap_new wr _ _ rfl
      have hB5 := hB.trans (below_new6 wr (.cells #[.bool u0,.int .u64 z0,.slice r0 n0 e0,.bool u1,.int .u64 z1,.slice r1 n1 e1] 87) hB.size)
      have hn5 := hn.below (below_new6 wr (.cells #[.bool u0,.int .u64 z0,.slice r0 n0 e0,.bool u1,.int .u64 z1,.slice r1 n1 e1] 87) (Nat.le_refl _))
      clear hP hr hR hB
      go_wp2_with fail
      generalize (wr.alloc (.cells #[.bool u0,.int .u64 z0,.slice r0 n0 e0,.bool u1,.int .u64 z1,.slice r1 n1 e1] 87)) = W5 at rP rB rR rL hB5 hn5 ⊢
      generalize wr.heap.size = lb at rL lbe ⊢
      have mulA : ∀ W',Below W5.heap.size W5 W' → Calls Tryz.prog 34 #[.agg #[.bool s0,.int .u64 x0,.slice p0 l0 c0],.agg #[.bool u0,.int .u64 z0,.slice r0 n0 e0]] W' (RetInt (P0 * B0) W') := fun W' hb => mul_int K hK hK2 _ _ P0 B0 W' ((hp0.belowB hB5).below hb) ((hb0.belowB hB5).below hb) kp0 kb0
      have mulB : ∀ W',Below W5.heap.size W5 W' → Calls Tryz.prog 34 #[.agg #[.bool s1,.int .u64 x1,.slice p1 l1 c1],.agg #[.bool u1,.int .u64 z1,.slice r1 n1 e1]] W' (RetInt (P1 * B1) W') := fun W' hb => mul_int K hK hK2 _ _ P1 B1 W' ((hp1.belowB hB5).below hb) ((hb1.belowB hB5).below hb) kp1 kb1
      have addC : ∀ va vb W',IsInt W' va (P0 * B0) → IsInt W' vb (P1 * B1) → Calls Tryz.prog 35 #[va,vb] W' (RetInt (P0 * B0 + P1 * B1) W') := fun va vb W' h1 h2 => add_int (K + K) (by omega) (by omega) va vb _ _ W' h1 h2 (absI_mul_lt kp0 kb0) (absI_mul_lt kp1 kb1)
      obtain ⟨R,hRe⟩ : ∃ R,P0 * B0 + P1 * B1 = R := ⟨_,rfl⟩
      rw [hRe] at addC
      have HR := Lib.hid hRe
      clear hRe
      generalize P0 * B0 = M0 at mulA addC
      generalize P1 * B1 = M1 at mulB addC
      have zP := rP.lt
      have zL := rL.lt
      have zB := rB.lt
      have zR := rR.lt
      have dP : q ≠ q + 1 + 1 + 1 := by omega
      have dR : q + 1 + 1 ≠ q + 1 + 1 + 1 := by omega
      have hqw : w.heap.size ≤ q + 1 + 1 + 1 := by omega
      have dL : lb ≠ q + 1 + 1 + 1 := by omega
      have acc := Below.refl W5.heap.size W5
      have a0 := (rP.below acc zP).cell0
      have a1 := (rP.below acc zP).cell1
      have a2 := (rP.below acc zP).cell2
      have a3 := (rP.below acc zP).cell3
      have a4 := (rP.below acc zP).cell4
      have a5 := (rP.below acc zP).cell5
      have b0 := (rL.below acc zL).cell0
      have b1 := (rL.below acc zL).cell1
      have b2 := (rL.below acc zL).cell2
      have b3 := (rL.below acc zL).cell3
      have b4 := (rL.below acc zL).cell4
      have b5 := (rL.below acc zL).cell5
      have g3 := (rB.below acc zB).cell3
      have g4 := (rB.below acc zB).cell4
      have g5 := (rB.below acc zB).cell5
      have f3 := (rB.below acc zB).free 3
      have f4 := (rB.below acc zB).free 4
      have f5 := (rB.below acc zB).free 5
      go_region_held3 (fun w' => w'.cell? ⟨q,0,none⟩ = some (.bool s0) ∧ w'.cell? ⟨q,1,none⟩ = some (.int .u64 x0) ∧ w'.cell? ⟨q,2,none⟩ = some (.slice p0 l0 c0) ∧ w'.cell? ⟨q,3,none⟩ = some (.bool s1) ∧ w'.cell? ⟨q,4,none⟩ = some (.int .u64 x1) ∧ w'.cell? ⟨q,5,none⟩ = some (.slice p1 l1 c1) ∧ w'.cell? ⟨lb,0,none⟩ = some (.bool u0) ∧ w'.cell? ⟨lb,1,none⟩ = some (.int .u64 z0) ∧ w'.cell? ⟨lb,2,none⟩ = some (.slice r0 n0 e0) ∧ w'.cell? ⟨lb,3,none⟩ = some (.bool u1) ∧ w'.cell? ⟨lb,4,none⟩ = some (.int .u64 z1) ∧ w'.cell? ⟨lb,5,none⟩ = some (.slice r1 n1 e1))
        (first | with_reducible exact ⟨(rP.below acc zP).cell0,(rP.below acc zP).cell1,(rP.below acc zP).cell2,(rP.below acc zP).cell3,(rP.below acc zP).cell4,(rP.below acc zP).cell5,(rL.below acc zL).cell0,(rL.below acc zL).cell1,(rL.below acc zL).cell2,(rL.below acc zL).cell3,(rL.below acc zL).cell4,(rL.below acc zL).cell5⟩ | with_reducible exact ⟨(rP.below acc zP).drew.cell0,(rP.below acc zP).drew.cell1,(rP.below acc zP).drew.cell2,(rP.below acc zP).drew.cell3,(rP.below acc zP).drew.cell4,(rP.below acc zP).drew.cell5,(rL.below acc zL).drew.cell0,(rL.below acc zL).drew.cell1,(rL.below acc zL).drew.cell2,(rL.below acc zL).drew.cell3,(rL.below acc zL).drew.cell4,(rL.below acc zL).drew.cell5⟩ | with_reducible exact ⟨((((rP.below acc zP).other (a := ⟨q + 1 + 1 + 1,3,none⟩) dP _).other (a := ⟨q + 1 + 1 + 1,4,none⟩) dP _).other (a := ⟨q + 1 + 1 + 1,5,none⟩) dP _).cell0,((((rP.below acc zP).other (a := ⟨q + 1 + 1 + 1,3,none⟩) dP _).other (a := ⟨q + 1 + 1 + 1,4,none⟩) dP _).other (a := ⟨q + 1 + 1 + 1,5,none⟩) dP _).cell1,((((rP.below acc zP).other (a := ⟨q + 1 + 1 + 1,3,none⟩) dP _).other (a := ⟨q + 1 + 1 + 1,4,none⟩) dP _).other (a := ⟨q + 1 + 1 + 1,5,none⟩) dP _).cell2,((((rP.below acc zP).other (a := ⟨q + 1 + 1 + 1,3,none⟩) dP _).other (a := ⟨q + 1 + 1 + 1,4,none⟩) dP _).other (a := ⟨q + 1 + 1 + 1,5,none⟩) dP _).cell3,((((rP.below acc zP).other (a := ⟨q + 1 + 1 + 1,3,none⟩) dP _).other (a := ⟨q + 1 + 1 + 1,4,none⟩) dP _).other (a := ⟨q + 1 + 1 + 1,5,none⟩) dP _).cell4,((((rP.below acc zP).other (a := ⟨q + 1 + 1 + 1,3,none⟩) dP _).other (a := ⟨q + 1 + 1 + 1,4,none⟩) dP _).other (a := ⟨q + 1 + 1 + 1,5,none⟩) dP _).cell5,((((rL.below acc zL).other (a := ⟨q + 1 + 1 + 1,3,none⟩) dL _).other (a := ⟨q + 1 + 1 + 1,4,none⟩) dL _).other (a := ⟨q + 1 + 1 + 1,5,none⟩) dL _).cell0,((((rL.below acc zL).other (a := ⟨q + 1 + 1 + 1,3,none⟩) dL _).other (a := ⟨q + 1 + 1 + 1,4,none⟩) dL _).other (a := ⟨q + 1 + 1 + 1,5,none⟩) dL _).cell1,((((rL.below acc zL).other (a := ⟨q + 1 + 1 + 1,3,none⟩) dL _).other (a := ⟨q + 1 + 1 + 1,4,none⟩) dL _).other (a := ⟨q + 1 + 1 + 1,5,none⟩) dL _).cell2,((((rL.below acc zL).other (a := ⟨q + 1 + 1 + 1,3,none⟩) dL _).other (a := ⟨q + 1 + 1 + 1,4,none⟩) dL _).other (a := ⟨q + 1 + 1 + 1,5,none⟩) dL _).cell3,((((rL.below acc zL).other (a := ⟨q + 1 + 1 + 1,3,none⟩) dL _).other (a := ⟨q + 1 + 1 + 1,4,none⟩) dL _).other (a := ⟨q + 1 + 1 + 1,5,none⟩) dL _).cell4,((((rL.below acc zL).other (a := ⟨q + 1 + 1 + 1,3,none⟩) dL _).other (a := ⟨q + 1 + 1 + 1,4,none⟩) dL _).other (a := ⟨q + 1 + 1 + 1,5,none⟩) dL _).cell5⟩)
        (first
          | (go_at_call 34; (first | (have q1 := mulA _ acc; (with_reducible refine q1.mono ?_); clear q1) | (have q1 := mulA _ acc.drew; (with_reducible refine q1.mono ?_); clear q1)); rintro e wa ⟨v1,rfl,h1,hb⟩; (first | replace h2 := h2.below hb | replace h2 := h2.drew.below hb | skip); (first | replace acc := below_acc acc acc.size hb | replace acc := below_accD acc acc.size hb); have a0 := (rP.below acc zP).cell0; have a1 := (rP.below acc zP).cell1; have a2 := (rP.below acc zP).cell2; have a3 := (rP.below acc zP).cell3; have a4 := (rP.below acc zP).cell4; have a5 := (rP.below acc zP).cell5; have b0 := (rL.below acc zL).cell0; have b1 := (rL.below acc zL).cell1; have b2 := (rL.below acc zL).cell2; have b3 := (rL.below acc zL).cell3; have b4 := (rL.below acc zL).cell4; have b5 := (rL.below acc zL).cell5; have g3 := (rB.below acc zB).cell3; have g4 := (rB.below acc zB).cell4; have g5 := (rB.below acc zB).cell5; have f3 := (rB.below acc zB).free 3; have f4 := (rB.below acc zB).free 4; have f5 := (rB.below acc zB).free 5; clear hb)
          | (go_at_call 34; (first | (have q1 := mulB _ acc; (with_reducible refine q1.mono ?_); clear q1) | (have q1 := mulB _ acc.drew; (with_reducible refine q1.mono ?_); clear q1)); rintro e wb ⟨v2,rfl,h2,hb⟩; (first | replace h1 := h1.below hb | replace h1 := h1.drew.below hb | skip); (first | replace acc := below_acc acc acc.size hb | replace acc := below_accD acc acc.size hb); have a0 := (rP.below acc zP).cell0; have a1 := (rP.below acc zP).cell1; have a2 := (rP.below acc zP).cell2; have a3 := (rP.below acc zP).cell3; have a4 := (rP.below acc zP).cell4; have a5 := (rP.below acc zP).cell5; have b0 := (rL.below acc zL).cell0; have b1 := (rL.below acc zL).cell1; have b2 := (rL.below acc zL).cell2; have b3 := (rL.below acc zL).cell3; have b4 := (rL.below acc zL).cell4; have b5 := (rL.below acc zL).cell5; have g3 := (rB.below acc zB).cell3; have g4 := (rB.below acc zB).cell4; have g5 := (rB.below acc zB).cell5; have f3 := (rB.below acc zB).free 3; have f4 := (rB.below acc zB).free 4; have f5 := (rB.below acc zB).free 5; clear hb)
          | (go_at_call 35; (first | (have q1 := addC _ _ _ h1 h2; (with_reducible refine q1.mono ?_); clear q1) | (have q1 := addC _ _ _ h1.drew h2.drew; (with_reducible refine q1.mono ?_); clear q1)); rintro e wc ⟨v3,rfl,⟨x3,p3,l3,c3,rfl,hn3⟩,hb⟩; (first | replace acc := below_acc acc acc.size hb | replace acc := below_accD acc acc.size hb); have a0 := (rP.below acc zP).cell0; have a1 := (rP.below acc zP).cell1; have a2 := (rP.below acc zP).cell2; have a3 := (rP.below acc zP).cell3; have a4 := (rP.below acc zP).cell4; have a5 := (rP.below acc zP).cell5; have b0 := (rL.below acc zL).cell0; have b1 := (rL.below acc zL).cell1; have b2 := (rL.below acc zL).cell2; have b3 := (rL.below acc zL).cell3; have b4 := (rL.below acc zL).cell4; have b5 := (rL.below acc zL).cell5; have g3 := (rB.below acc zB).cell3; have g4 := (rB.below acc zB).cell4; have g5 := (rB.below acc zB).cell5; have f3 := (rB.below acc zB).free 3; have f4 := (rB.below acc zB).free 4; have f5 := (rB.below acc zB).free 5; clear hb))
      all_goals
        have gB := (rB.below acc zB).set3 (.bool (decide (R < 0))) (.int .u64 x3) (.slice p3 l3 c3)
        have gP := ((((rP.below acc zP).other (a := ⟨q + 1 + 1 + 1,3,none⟩) dP (.bool (decide (R < 0)))).other (a := ⟨q + 1 + 1 + 1,4,none⟩) dP (.int .u64 x3)).other (a := ⟨q + 1 + 1 + 1,5,none⟩) dP (.slice p3 l3 c3))
        have gR := ((((rR.below acc zR).other (a := ⟨q + 1 + 1 + 1,3,none⟩) dR (.bool (decide (R < 0)))).other (a := ⟨q + 1 + 1 + 1,4,none⟩) dR (.int .u64 x3)).other (a := ⟨q + 1 + 1 + 1,5,none⟩) dR (.slice p3 l3 c3))
        have gn := hn3.sets (rB.below acc zB).cell2 3 4 5 (.bool (decide (R < 0))) (.int .u64 x3) (.slice p3 l3 c3)
        have go := (hn5.below acc).sets (rB.below acc zB).cell2 3 4 5 (.bool (decide (R < 0))) (.int .u64 x3) (.slice p3 l3 c3)
        have gW := (((hB5.trans (acc.mono hB5.size)).setCell (p := ⟨q + 1 + 1 + 1,3,none⟩) hqw (.bool (decide (R < 0)))).setCell (p := ⟨q + 1 + 1 + 1,4,none⟩) hqw (.int .u64 x3)).setCell (p := ⟨q + 1 + 1 + 1,5,none⟩) hqw (.slice p3 l3 c3)
        go_wp2_with fail
        go_roundg 0
        case measure => omega
        case rel => exact ⟨gW,gP,gR,.inr (.inr ⟨u,p,l,c,x3,p3,l3,c3,rfl,rfl,by rw [HR.out]; exact gB,go,by rw [HR.out]; exact gn⟩)⟩
    · obtain ⟨R0,hR0⟩ : ∃ R0,P0 * A0 + P1 * A1 = R0 := ⟨_,rfl⟩
      obtain ⟨R1,hR1⟩ : ∃ R1,P0 * B0 + P1 * B1 = R1 := ⟨_,rfl⟩
      rw [hR0] at hn hr
      rw [hR1] at hn2 hr
      have HR0 := Lib.hid hR0
      have HR1 := Lib.hid hR1
      clear hR0 hR1
      have hqw : w.heap.size ≤ q + 1 + 1 := by omega
      have gR := (hR.set0 (.bool (decide (R0 < 0))) (.int .u64 u) (.slice p l c)).set3 (.bool (decide (R1 < 0))) (.int .u64 x) (.slice r m d)
      have e2 := (hR.set0 (.bool (decide (R0 < 0))) (.int .u64 u) (.slice p l c)).cell2
      have gn := (hn.sets hR.cell2 0 1 2 (.bool (decide (R0 < 0))) (.int .u64 u) (.slice p l c)).sets e2 3 4 5 (.bool (decide (R1 < 0))) (.int .u64 x) (.slice r m d)
      have gn2 := (hn2.sets hR.cell2 0 1 2 (.bool (decide (R0 < 0))) (.int .u64 u) (.slice p l c)).sets e2 3 4 5 (.bool (decide (R1 < 0))) (.int .u64 x) (.slice r m d)
      have gW := (((((hB.setCell (p := ⟨q + 1 + 1,0,none⟩) hqw (.bool (decide (R0 < 0)))).setCell (p := ⟨q + 1 + 1,1,none⟩) hqw (.int .u64 u)).setCell (p := ⟨q + 1 + 1,2,none⟩) hqw (.slice p l c)).setCell (p := ⟨q + 1 + 1,3,none⟩) hqw (.bool (decide (R1 < 0)))).setCell (p := ⟨q + 1 + 1,4,none⟩) hqw (.int .u64 x)).setCell (p := ⟨q + 1 + 1,5,none⟩) hqw (.slice r m d)
      clear e2
      have c0 := hr.cell0
      have c1 := hr.cell1
      have c2 := hr.cell2
      have c3 := hr.cell3
      have c4 := hr.cell4
      have c5 := hr.cell5
      have g0 := hR.cell0
      have g1 := hR.cell1
      have g2 := hR.cell2
      have g3 := hR.cell3
      have g4 := hR.cell4
      have g5 := hR.cell5
      have f0 := hR.free 0
      have f1 := hR.free 1
      have f2 := hR.free 2
      have f3 := hR.free 3
      have f4 := hR.free 4
      have f5 := hR.free 5
      go_wp2_with fail
      exact bodyPost_ret (v := .agg #[.bool (decide (R0 < 0)),.int .u64 u,.slice p l c,.bool (decide (R1 < 0)),.int .u64 x,.slice r m d]) (results_cell_row Tryz.results48 _ _ (q + 1 + 1) _ _ (0,0) _ rfl gR Tryz.underlying88 rfl (by kernel_rfl)) rfl ⟨_,rfl,⟨u,p,l,c,x,r,m,d,by rw [HR0.out,HR1.out],by rw [HR0.out]; exact gn,by rw [HR1.out]; exact gn2⟩,gW⟩
end Go.Proofs.YtogildikglomkaaGreatDoor

namespace Go.Proofs.YtogildikglomkaaGreatDoor
open Go.RowKit
set_option linter.unusedVariables false

/-- The value v is a turn. -/
def IsTurn (w : World) (v : Value) (A0 A1 B0 B1 : Int) : Prop := ∃ t0 t1 u0 u1 y0 y1 z0 z1 q0 q1 r0 r1 m0 m1 n0 n1 d0 d1 e0 e1,v = .agg #[.bool t0,.int .u64 y0,.slice q0 m0 d0,.bool t1,.int .u64 y1,.slice q1 m1 d1,.bool u0,.int .u64 z0,.slice r0 n0 e0,.bool u1,.int .u64 z1,.slice r1 n1 e1] ∧
  IsInt w (.agg #[.bool t0,.int .u64 y0,.slice q0 m0 d0]) A0 ∧ IsInt w (.agg #[.bool t1,.int .u64 y1,.slice q1 m1 d1]) A1 ∧ IsInt w (.agg #[.bool u0,.int .u64 z0,.slice r0 n0 e0]) B0 ∧ IsInt w (.agg #[.bool u1,.int .u64 z1,.slice r1 n1 e1]) B1
theorem of_shape (n : Int) (hn : -9223372036854775808 ≤ n ∧ n ≤ 9223372036854775807) (w : World) : Calls Tryz.prog 7 #[.int .i64 n] w fun e w' => ∃ b x p l k,e = .returned (.agg #[.bool b,.int .u64 x,.slice p l k]) ∧ IsInt w' (.agg #[.bool b,.int .u64 x,.slice p l k]) n ∧ Below w.heap.size w w' := by
  refine (of_int n hn w).mono ?_
  rintro e w' ⟨v,rfl,⟨x,p,l,k,rfl,hx⟩,hb⟩
  exact ⟨_,_,_,_,_,rfl,⟨x,p,l,k,rfl,hx⟩,hb⟩
/-- A variable of four Ints. -/
def Row12 (w : World) (b : Nat) (v0 v1 v2 v3 v4 v5 v6 v7 v8 v9 v10 v11 : Value) : Prop := w.heap[b]? = some (.cells #[v0,v1,v2,v3,v4,v5,v6,v7,v8,v9,v10,v11] 91 (0,0))
section
variable {w w' : World} {b : Nat} {v0 v1 v2 v3 v4 v5 v6 v7 v8 v9 v10 v11 : Value}
theorem Row12.lt (h : Row12 w b v0 v1 v2 v3 v4 v5 v6 v7 v8 v9 v10 v11) : b < w.heap.size := (Array.getElem?_eq_some_iff.1 h).1
theorem Row12.cell0 (h : Row12 w b v0 v1 v2 v3 v4 v5 v6 v7 v8 v9 v10 v11) : w.cell? ⟨b,0,none⟩ = some v0 := by rw [cell_of_row w b 0 _ _ (0,0) h]; rfl
theorem Row12.cell1 (h : Row12 w b v0 v1 v2 v3 v4 v5 v6 v7 v8 v9 v10 v11) : w.cell? ⟨b,1,none⟩ = some v1 := by rw [cell_of_row w b 1 _ _ (0,0) h]; rfl
theorem Row12.cell2 (h : Row12 w b v0 v1 v2 v3 v4 v5 v6 v7 v8 v9 v10 v11) : w.cell? ⟨b,2,none⟩ = some v2 := by rw [cell_of_row w b 2 _ _ (0,0) h]; rfl
theorem Row12.cell3 (h : Row12 w b v0 v1 v2 v3 v4 v5 v6 v7 v8 v9 v10 v11) : w.cell? ⟨b,3,none⟩ = some v3 := by rw [cell_of_row w b 3 _ _ (0,0) h]; rfl
theorem Row12.cell4 (h : Row12 w b v0 v1 v2 v3 v4 v5 v6 v7 v8 v9 v10 v11) : w.cell? ⟨b,4,none⟩ = some v4 := by rw [cell_of_row w b 4 _ _ (0,0) h]; rfl
theorem Row12.cell5 (h : Row12 w b v0 v1 v2 v3 v4 v5 v6 v7 v8 v9 v10 v11) : w.cell? ⟨b,5,none⟩ = some v5 := by rw [cell_of_row w b 5 _ _ (0,0) h]; rfl
theorem Row12.cell6 (h : Row12 w b v0 v1 v2 v3 v4 v5 v6 v7 v8 v9 v10 v11) : w.cell? ⟨b,6,none⟩ = some v6 := by rw [cell_of_row w b 6 _ _ (0,0) h]; rfl
theorem Row12.cell7 (h : Row12 w b v0 v1 v2 v3 v4 v5 v6 v7 v8 v9 v10 v11) : w.cell? ⟨b,7,none⟩ = some v7 := by rw [cell_of_row w b 7 _ _ (0,0) h]; rfl
theorem Row12.cell8 (h : Row12 w b v0 v1 v2 v3 v4 v5 v6 v7 v8 v9 v10 v11) : w.cell? ⟨b,8,none⟩ = some v8 := by rw [cell_of_row w b 8 _ _ (0,0) h]; rfl
theorem Row12.cell9 (h : Row12 w b v0 v1 v2 v3 v4 v5 v6 v7 v8 v9 v10 v11) : w.cell? ⟨b,9,none⟩ = some v9 := by rw [cell_of_row w b 9 _ _ (0,0) h]; rfl
theorem Row12.cell10 (h : Row12 w b v0 v1 v2 v3 v4 v5 v6 v7 v8 v9 v10 v11) : w.cell? ⟨b,10,none⟩ = some v10 := by rw [cell_of_row w b 10 _ _ (0,0) h]; rfl
theorem Row12.cell11 (h : Row12 w b v0 v1 v2 v3 v4 v5 v6 v7 v8 v9 v10 v11) : w.cell? ⟨b,11,none⟩ = some v11 := by rw [cell_of_row w b 11 _ _ (0,0) h]; rfl
theorem Row12.free (h : Row12 w b v0 v1 v2 v3 v4 v5 v6 v7 v8 v9 v10 v11) (i : Nat) : w.frozen? ⟨b,i,none⟩ = false := frozen_of_row w b i _ _ h
theorem Row12.below {B : Nat} (h : Row12 w b v0 v1 v2 v3 v4 v5 v6 v7 v8 v9 v10 v11) (hb : Below B w w') (hB : b < B) : Row12 w' b v0 v1 v2 v3 v4 v5 v6 v7 v8 v9 v10 v11 := (hb.block b hB).trans h
theorem Row12.drew (h : Row12 w b v0 v1 v2 v3 v4 v5 v6 v7 v8 v9 v10 v11) : Row12 w.drew b v0 v1 v2 v3 v4 v5 v6 v7 v8 v9 v10 v11 := h
theorem Row12.only {p : Nat → Prop} (h : Row12 w b v0 v1 v2 v3 v4 v5 v6 v7 v8 v9 v10 v11) (ho : Only w w' p) (hp : ¬ p b) : Row12 w' b v0 v1 v2 v3 v4 v5 v6 v7 v8 v9 v10 v11 := (ho.2.2.2.2 b h.lt hp).trans h
theorem Row12.set0 (h : Row12 w b v0 v1 v2 v3 v4 v5 v6 v7 v8 v9 v10 v11) (x y z : Value) : Row12 (((w.setCell ⟨b,0,none⟩ x).setCell ⟨b,1,none⟩ y).setCell ⟨b,2,none⟩ z) b x y z v3 v4 v5 v6 v7 v8 v9 v10 v11 := by
  have g1 := heap_setCell_same w b 0 _ _ x h
  have g2 := heap_setCell_same _ b 1 _ _ y g1
  have g3 := heap_setCell_same _ b 2 _ _ z g2
  exact g3
theorem Row12.set3 (h : Row12 w b v0 v1 v2 v3 v4 v5 v6 v7 v8 v9 v10 v11) (x y z : Value) : Row12 (((w.setCell ⟨b,3,none⟩ x).setCell ⟨b,4,none⟩ y).setCell ⟨b,5,none⟩ z) b v0 v1 v2 x y z v6 v7 v8 v9 v10 v11 := by
  have g1 := heap_setCell_same w b 3 _ _ x h
  have g2 := heap_setCell_same _ b 4 _ _ y g1
  have g3 := heap_setCell_same _ b 5 _ _ z g2
  exact g3
theorem Row12.set6 (h : Row12 w b v0 v1 v2 v3 v4 v5 v6 v7 v8 v9 v10 v11) (x y z : Value) : Row12 (((w.setCell ⟨b,6,none⟩ x).setCell ⟨b,7,none⟩ y).setCell ⟨b,8,none⟩ z) b v0 v1 v2 v3 v4 v5 x y z v9 v10 v11 := by
  have g1 := heap_setCell_same w b 6 _ _ x h
  have g2 := heap_setCell_same _ b 7 _ _ y g1
  have g3 := heap_setCell_same _ b 8 _ _ z g2
  exact g3
theorem Row12.set9 (h : Row12 w b v0 v1 v2 v3 v4 v5 v6 v7 v8 v9 v10 v11) (x y z : Value) : Row12 (((w.setCell ⟨b,9,none⟩ x).setCell ⟨b,10,none⟩ y).setCell ⟨b,11,none⟩ z) b v0 v1 v2 v3 v4 v5 v6 v7 v8 x y z := by
  have g1 := heap_setCell_same w b 9 _ _ x h
  have g2 := heap_setCell_same _ b 10 _ _ y g1
  have g3 := heap_setCell_same _ b 11 _ _ z g2
  exact g3
theorem Row12.other {a : Addr} (h : Row12 w b v0 v1 v2 v3 v4 v5 v6 v7 v8 v9 v10 v11) (ha : b ≠ a.block) (v : Value) : Row12 (w.setCell a v) b v0 v1 v2 v3 v4 v5 v6 v7 v8 v9 v10 v11 := (heap_setCell_other w a b v ha).trans h
end
theorem Row4.other {w : World} {c : Nat} {x y z u : Int} {a : Addr} (h : Row4 w c x y z u) (ha : c ≠ a.block) (v : Value) : Row4 (w.setCell a v) c x y z u := (heap_setCell_other w a c v ha).trans h
theorem Row4.drew {w : World} {c : Nat} {x y z u : Int} (h : Row4 w c x y z u) : Row4 w.drew c x y z u := h
theorem Row4.only {w w' : World} {c : Nat} {x y z u : Int} {p : Nat → Prop} (h : Row4 w c x y z u) (ho : Only w w' p) (hp : ¬ p c) : Row4 w' c x y z u := (ho.2.2.2.2 c h.lt hp).trans h
theorem Only.trans' {a b c : World} {p r : Nat → Prop} (h : Only a b p) (g : Only b c r) (hr : ∀ k,r k → p k) : Only a c p :=
  h.trans ⟨g.1,g.2.1,g.2.2.1,g.2.2.2.1,fun k hk hp => g.2.2.2.2 k hk (fun h' => hp (hr k h'))⟩
theorem Only.setNew {a b : World} {p : Nat → Prop} (h : Only a b p) {q : Nat} (hq : a.heap.size ≤ q) (i : Nat) (v : Value) : Only a (b.setCell ⟨q,i,none⟩ v) p :=
  ⟨h.1,h.2.1,h.2.2.1,Nat.le_trans h.2.2.2.1 (by simp [World.setCell]),fun k hk hp => (heap_setCell_other b ⟨q,i,none⟩ k v (by show k ≠ q; omega)).trans (h.2.2.2.2 k hk hp)⟩
theorem IsInt.sets {w : World} {v : Value} {n : Int} {c i : Nat} {p : Option Addr} {m q : Nat} (h : IsInt w v n) (hc : w.cell? ⟨c,i,none⟩ = some (.slice p m q)) (i0 i1 i2 : Nat) (x y z : Value) : IsInt (((w.setCell ⟨c,i0,none⟩ x).setCell ⟨c,i1,none⟩ y).setCell ⟨c,i2,none⟩ z) v n := by
  obtain ⟨x',p',l,c',hv,hn⟩ := h
  exact ⟨x',p',l,c',hv,hn.sets hc i0 i1 i2 x y z⟩
set_option maxRecDepth 100000 in
set_option maxHeartbeats 8000000 in
theorem step_64 (e ga gb ca cb : Nat) (w : World) (nab : ga ≠ gb) (nea : e ≠ ga) (neb : e ≠ gb) (hca : 1 ≤ ca) (hcb : 1 ≤ cb) (he : EBox w e (.slice (some ⟨ga,0,none⟩) 1 ca) (.slice (some ⟨gb,0,none⟩) 1 cb)) (ha : Arr w ga 22 .u64 [6]) (hb : Arr w gb 22 .u64 [4]) :
    Calls Tryz.prog 49 #[.pointer (some ⟨e,0,none⟩)] w fun r w' => ∃ v,r = .returned v ∧ IsTurn w' v 0 1 1 (-1) ∧ EBox w' e (.slice (some ⟨ga,0,none⟩) 1 ca) (.slice (some ⟨gb,0,none⟩) 1 cb) ∧ Arr w' ga 22 .u64 [4] ∧ Arr w' gb 22 .u64 [2] ∧ Only w w' (fun k => k = e ∨ k = ga ∨ k = gb) := by
  have tp := fun W (h1 : EBox W e (.slice (some ⟨ga,0,none⟩) 1 ca) (.slice (some ⟨gb,0,none⟩) 1 cb)) (h2 : Arr W ga 22 .u64 [6]) (h3 : Arr W gb 22 .u64 [4]) => tops_c 6 4 6917529027641081856 4611686018427387904 (Lib.hid (by decide +kernel)) (Lib.hid (by decide +kernel)) (by decide +kernel) e ga gb ca cb W h1 h2 h3
  have b0 : Below w.heap.size w (w.alloc (.cells #[.bool false,.int .u64 0,.slice none 0 0,.bool false,.int .u64 0,.slice none 0 0,.bool false,.int .u64 0,.slice none 0 0,.bool false,.int .u64 0,.slice none 0 0] 91)) := by go_grown
  have hT : Row12 (w.alloc (.cells #[.bool false,.int .u64 0,.slice none 0 0,.bool false,.int .u64 0,.slice none 0 0,.bool false,.int .u64 0,.slice none 0 0,.bool false,.int .u64 0,.slice none 0 0] 91)) w.heap.size (.bool false) (.int .u64 0) (.slice none 0 0) (.bool false) (.int .u64 0) (.slice none 0 0) (.bool false) (.int .u64 0) (.slice none 0 0) (.bool false) (.int .u64 0) (.slice none 0 0) := heap_new w _ _ rfl
  have he0 := he.lt
  replace he := he.below b0 he.lt
  have ha0 := ha.lt
  have hb0 := hb.lt
  replace ha := ha.below b0 ha.lt
  replace hb := hb.below b0 hb.lt
  obtain ⟨P,hP⟩ : ∃ P,(fun k => k = e ∨ k = ga ∨ k = gb) = P := ⟨_,rfl⟩
  have hBw := (Only.refl w P).below b0
  go_enter Tryz.func49,Tryz.ntmps49
  go_wp2_with fail
  generalize (w.alloc (.cells #[.bool false,.int .u64 0,.slice none 0 0,.bool false,.int .u64 0,.slice none 0 0,.bool false,.int .u64 0,.slice none 0 0,.bool false,.int .u64 0,.slice none 0 0] 91)) = W0 at b0 hT he ha hb hBw ⊢
  obtain ⟨s,hs⟩ : ∃ s,w.heap.size = s := ⟨_,rfl⟩
  rw [hs] at hT ⊢
  refine (tp W0 he ha hb).mono ?_
  rintro r W1 ⟨rfl,m1,rfl⟩
  replace he : EBox (W0.drewN m1) _ _ _ := he
  replace ha := ha.drewN m1
  replace hb := hb.drewN m1
  replace hT : Row12 (W0.drewN m1) s (.bool false) (.int .u64 0) (.slice none 0 0) (.bool false) (.int .u64 0) (.slice none 0 0) (.bool false) (.int .u64 0) (.slice none 0 0) (.bool false) (.int .u64 0) (.slice none 0 0) := hT
  replace hBw : Only w (W0.drewN m1) P := hBw
  generalize W0.drewN m1 = W1 at he ha hb hT hBw ⊢
  go_wp2_with fail
  refine (sure_64 _).mono ?_
  rintro r W2 ⟨rfl,b2⟩
  replace he := he.below b2 he.lt
  replace ha := ha.below b2 ha.lt
  replace hb := hb.below b2 hb.lt
  replace hT := hT.below b2 hT.lt
  replace hBw := hBw.below b2
  have b3 : Below W2.heap.size W2 (W2.alloc (.cells #[.int .i64 0,.int .i64 1,.int .i64 1,.int .i64 (-1)] 132)) := by go_grown
  have hL : Row4 (W2.alloc (.cells #[.int .i64 0,.int .i64 1,.int .i64 1,.int .i64 (-1)] 132)) W2.heap.size 0 1 1 (-1) := heap_new W2 _ _ rfl
  have le := he.lt
  have la := ha.lt
  have lb' := hb.lt
  have lT := hT.lt
  replace he := he.below b3 le
  replace ha := ha.below b3 la
  replace hb := hb.below b3 lb'
  replace hT := hT.below b3 lT
  replace hBw := hBw.below b3
  have l0 := hL.cell0
  have l1 := hL.cell1
  have l2 := hL.cell2
  have l3 := hL.cell3
  go_wp2_with fail
  generalize (W2.alloc (.cells #[.int .i64 0,.int .i64 1,.int .i64 1,.int .i64 (-1)] 132)) = W3 at he ha hb hT hBw hL l0 l1 l2 l3 ⊢
  generalize W2.heap.size = lb at hL l0 l1 l2 l3 le la lb' lT ⊢
  refine (by_64 e ga gb ca cb W3 nab nea neb hca hcb he ha hb).mono ?_
  rintro r W4 ⟨rfl,he4,ha4,hb4,ho4⟩
  have hL4 := hL.only ho4 (by rintro (h | h | h) <;> omega)
  have hT4 := hT.only ho4 (by rintro (h | h | h) <;> omega)
  rw [hP] at ho4
  have hB4 := hBw.trans' ho4 (fun k hk => by subst hP; exact hk)
  clear ho4 hBw hT hL l0 l1 l2 l3 he ha hb
  have l0 := hL4.cell0
  have l1 := hL4.cell1
  have l2 := hL4.cell2
  have l3 := hL4.cell3
  go_wp2_with fail
  have zL := hL4.lt
  have zT := hT4.lt
  have dL : lb ≠ s := by omega
  have acc := Below.refl W4.heap.size W4
  have o0 := fun W => of_shape 0 (by decide) W
  have o1 := fun W => of_shape 1 (by decide) W
  have om := fun W => of_shape (-1) (by decide) W
  have l0 := (hL4.below acc zL).cell0
  have l1 := (hL4.below acc zL).cell1
  have l2 := (hL4.below acc zL).cell2
  have l3 := (hL4.below acc zL).cell3
  have k0 := (hT4.below acc zT).cell0
  have k1 := (hT4.below acc zT).cell1
  have k2 := (hT4.below acc zT).cell2
  have k3 := (hT4.below acc zT).cell3
  have k4 := (hT4.below acc zT).cell4
  have k5 := (hT4.below acc zT).cell5
  have k6 := (hT4.below acc zT).cell6
  have k7 := (hT4.below acc zT).cell7
  have k8 := (hT4.below acc zT).cell8
  have k9 := (hT4.below acc zT).cell9
  have k10 := (hT4.below acc zT).cell10
  have k11 := (hT4.below acc zT).cell11
  have f0 := (hT4.below acc zT).free 0
  have f1 := (hT4.below acc zT).free 1
  have f2 := (hT4.below acc zT).free 2
  have f3 := (hT4.below acc zT).free 3
  have f4 := (hT4.below acc zT).free 4
  have f5 := (hT4.below acc zT).free 5
  have f6 := (hT4.below acc zT).free 6
  have f7 := (hT4.below acc zT).free 7
  have f8 := (hT4.below acc zT).free 8
  have f9 := (hT4.below acc zT).free 9
  have f10 := (hT4.below acc zT).free 10
  have f11 := (hT4.below acc zT).free 11
  go_region_held3 (fun w' => w'.cell? ⟨lb,0,none⟩ = some (.int .i64 0) ∧ w'.cell? ⟨lb,1,none⟩ = some (.int .i64 1) ∧ w'.cell? ⟨lb,2,none⟩ = some (.int .i64 1) ∧ w'.cell? ⟨lb,3,none⟩ = some (.int .i64 (-1)))
    (first | with_reducible exact ⟨(hL4.below acc zL).cell0,(hL4.below acc zL).cell1,(hL4.below acc zL).cell2,(hL4.below acc zL).cell3⟩ | with_reducible exact ⟨(hL4.below acc zL).drew.cell0,(hL4.below acc zL).drew.cell1,(hL4.below acc zL).drew.cell2,(hL4.below acc zL).drew.cell3⟩ | with_reducible exact ⟨(((((((((((((hL4.below acc zL).other (a := ⟨s,0,none⟩) dL _).other (a := ⟨s,1,none⟩) dL _).other (a := ⟨s,2,none⟩) dL _).other (a := ⟨s,3,none⟩) dL _).other (a := ⟨s,4,none⟩) dL _).other (a := ⟨s,5,none⟩) dL _).other (a := ⟨s,6,none⟩) dL _).other (a := ⟨s,7,none⟩) dL _).other (a := ⟨s,8,none⟩) dL _).other (a := ⟨s,9,none⟩) dL _).other (a := ⟨s,10,none⟩) dL _).other (a := ⟨s,11,none⟩) dL _).cell0,(((((((((((((hL4.below acc zL).other (a := ⟨s,0,none⟩) dL _).other (a := ⟨s,1,none⟩) dL _).other (a := ⟨s,2,none⟩) dL _).other (a := ⟨s,3,none⟩) dL _).other (a := ⟨s,4,none⟩) dL _).other (a := ⟨s,5,none⟩) dL _).other (a := ⟨s,6,none⟩) dL _).other (a := ⟨s,7,none⟩) dL _).other (a := ⟨s,8,none⟩) dL _).other (a := ⟨s,9,none⟩) dL _).other (a := ⟨s,10,none⟩) dL _).other (a := ⟨s,11,none⟩) dL _).cell1,(((((((((((((hL4.below acc zL).other (a := ⟨s,0,none⟩) dL _).other (a := ⟨s,1,none⟩) dL _).other (a := ⟨s,2,none⟩) dL _).other (a := ⟨s,3,none⟩) dL _).other (a := ⟨s,4,none⟩) dL _).other (a := ⟨s,5,none⟩) dL _).other (a := ⟨s,6,none⟩) dL _).other (a := ⟨s,7,none⟩) dL _).other (a := ⟨s,8,none⟩) dL _).other (a := ⟨s,9,none⟩) dL _).other (a := ⟨s,10,none⟩) dL _).other (a := ⟨s,11,none⟩) dL _).cell2,(((((((((((((hL4.below acc zL).other (a := ⟨s,0,none⟩) dL _).other (a := ⟨s,1,none⟩) dL _).other (a := ⟨s,2,none⟩) dL _).other (a := ⟨s,3,none⟩) dL _).other (a := ⟨s,4,none⟩) dL _).other (a := ⟨s,5,none⟩) dL _).other (a := ⟨s,6,none⟩) dL _).other (a := ⟨s,7,none⟩) dL _).other (a := ⟨s,8,none⟩) dL _).other (a := ⟨s,9,none⟩) dL _).other (a := ⟨s,10,none⟩) dL _).other (a := ⟨s,11,none⟩) dL _).cell3⟩)
    (first
      | (go_at_call 7; (with_reducible refine (o0 _).mono ?_); rintro e wA ⟨tA,yA,qA,mA,dA,rfl,iA,hb⟩; (first | replace iB := iB.below hb | replace iB := iB.drew.below hb | skip); (first | replace iC := iC.below hb | replace iC := iC.drew.below hb | skip); (first | replace iD := iD.below hb | replace iD := iD.drew.below hb | skip); (first | replace acc := below_acc acc acc.size hb | replace acc := below_accD acc acc.size hb); have l0 := (hL4.below acc zL).cell0; have l1 := (hL4.below acc zL).cell1; have l2 := (hL4.below acc zL).cell2; have l3 := (hL4.below acc zL).cell3; have k0 := (hT4.below acc zT).cell0; have k1 := (hT4.below acc zT).cell1; have k2 := (hT4.below acc zT).cell2; have k3 := (hT4.below acc zT).cell3; have k4 := (hT4.below acc zT).cell4; have k5 := (hT4.below acc zT).cell5; have k6 := (hT4.below acc zT).cell6; have k7 := (hT4.below acc zT).cell7; have k8 := (hT4.below acc zT).cell8; have k9 := (hT4.below acc zT).cell9; have k10 := (hT4.below acc zT).cell10; have k11 := (hT4.below acc zT).cell11; have f0 := (hT4.below acc zT).free 0; have f1 := (hT4.below acc zT).free 1; have f2 := (hT4.below acc zT).free 2; have f3 := (hT4.below acc zT).free 3; have f4 := (hT4.below acc zT).free 4; have f5 := (hT4.below acc zT).free 5; have f6 := (hT4.below acc zT).free 6; have f7 := (hT4.below acc zT).free 7; have f8 := (hT4.below acc zT).free 8; have f9 := (hT4.below acc zT).free 9; have f10 := (hT4.below acc zT).free 10; have f11 := (hT4.below acc zT).free 11; clear hb)
      | (have tt := iB; clear tt; go_at_call 7; (with_reducible refine (o1 _).mono ?_); rintro e wC ⟨tC,yC,qC,mC,dC,rfl,iC,hb⟩; (first | replace iA := iA.below hb | replace iA := iA.drew.below hb | skip); (first | replace iB := iB.below hb | replace iB := iB.drew.below hb | skip); (first | replace iD := iD.below hb | replace iD := iD.drew.below hb | skip); (first | replace acc := below_acc acc acc.size hb | replace acc := below_accD acc acc.size hb); have l0 := (hL4.below acc zL).cell0; have l1 := (hL4.below acc zL).cell1; have l2 := (hL4.below acc zL).cell2; have l3 := (hL4.below acc zL).cell3; have k0 := (hT4.below acc zT).cell0; have k1 := (hT4.below acc zT).cell1; have k2 := (hT4.below acc zT).cell2; have k3 := (hT4.below acc zT).cell3; have k4 := (hT4.below acc zT).cell4; have k5 := (hT4.below acc zT).cell5; have k6 := (hT4.below acc zT).cell6; have k7 := (hT4.below acc zT).cell7; have k8 := (hT4.below acc zT).cell8; have k9 := (hT4.below acc zT).cell9; have k10 := (hT4.below acc zT).cell10; have k11 := (hT4.below acc zT).cell11; have f0 := (hT4.below acc zT).free 0; have f1 := (hT4.below acc zT).free 1; have f2 := (hT4.below acc zT).free 2; have f3 := (hT4.below acc zT).free 3; have f4 := (hT4.below acc zT).free 4; have f5 := (hT4.below acc zT).free 5; have f6 := (hT4.below acc zT).free 6; have f7 := (hT4.below acc zT).free 7; have f8 := (hT4.below acc zT).free 8; have f9 := (hT4.below acc zT).free 9; have f10 := (hT4.below acc zT).free 10; have f11 := (hT4.below acc zT).free 11; clear hb)
      | (go_at_call 7; (with_reducible refine (o1 _).mono ?_); rintro e wB ⟨tB,yB,qB,mB,dB,rfl,iB,hb⟩; (first | replace iA := iA.below hb | replace iA := iA.drew.below hb | skip); (first | replace iC := iC.below hb | replace iC := iC.drew.below hb | skip); (first | replace iD := iD.below hb | replace iD := iD.drew.below hb | skip); (first | replace acc := below_acc acc acc.size hb | replace acc := below_accD acc acc.size hb); have l0 := (hL4.below acc zL).cell0; have l1 := (hL4.below acc zL).cell1; have l2 := (hL4.below acc zL).cell2; have l3 := (hL4.below acc zL).cell3; have k0 := (hT4.below acc zT).cell0; have k1 := (hT4.below acc zT).cell1; have k2 := (hT4.below acc zT).cell2; have k3 := (hT4.below acc zT).cell3; have k4 := (hT4.below acc zT).cell4; have k5 := (hT4.below acc zT).cell5; have k6 := (hT4.below acc zT).cell6; have k7 := (hT4.below acc zT).cell7; have k8 := (hT4.below acc zT).cell8; have k9 := (hT4.below acc zT).cell9; have k10 := (hT4.below acc zT).cell10; have k11 := (hT4.below acc zT).cell11; have f0 := (hT4.below acc zT).free 0; have f1 := (hT4.below acc zT).free 1; have f2 := (hT4.below acc zT).free 2; have f3 := (hT4.below acc zT).free 3; have f4 := (hT4.below acc zT).free 4; have f5 := (hT4.below acc zT).free 5; have f6 := (hT4.below acc zT).free 6; have f7 := (hT4.below acc zT).free 7; have f8 := (hT4.below acc zT).free 8; have f9 := (hT4.below acc zT).free 9; have f10 := (hT4.below acc zT).free 10; have f11 := (hT4.below acc zT).free 11; clear hb)
      | (go_at_call 7; (with_reducible refine (om _).mono ?_); rintro e wD ⟨tD,yD,qD,mD,dD,rfl,iD,hb⟩; (first | replace iA := iA.below hb | replace iA := iA.drew.below hb | skip); (first | replace iB := iB.below hb | replace iB := iB.drew.below hb | skip); (first | replace iC := iC.below hb | replace iC := iC.drew.below hb | skip); (first | replace acc := below_acc acc acc.size hb | replace acc := below_accD acc acc.size hb); have l0 := (hL4.below acc zL).cell0; have l1 := (hL4.below acc zL).cell1; have l2 := (hL4.below acc zL).cell2; have l3 := (hL4.below acc zL).cell3; have k0 := (hT4.below acc zT).cell0; have k1 := (hT4.below acc zT).cell1; have k2 := (hT4.below acc zT).cell2; have k3 := (hT4.below acc zT).cell3; have k4 := (hT4.below acc zT).cell4; have k5 := (hT4.below acc zT).cell5; have k6 := (hT4.below acc zT).cell6; have k7 := (hT4.below acc zT).cell7; have k8 := (hT4.below acc zT).cell8; have k9 := (hT4.below acc zT).cell9; have k10 := (hT4.below acc zT).cell10; have k11 := (hT4.below acc zT).cell11; have f0 := (hT4.below acc zT).free 0; have f1 := (hT4.below acc zT).free 1; have f2 := (hT4.below acc zT).free 2; have f3 := (hT4.below acc zT).free 3; have f4 := (hT4.below acc zT).free 4; have f5 := (hT4.below acc zT).free 5; have f6 := (hT4.below acc zT).free 6; have f7 := (hT4.below acc zT).free 7; have f8 := (hT4.below acc zT).free 8; have f9 := (hT4.below acc zT).free 9; have f10 := (hT4.below acc zT).free 10; have f11 := (hT4.below acc zT).free 11; clear hb))
  all_goals
    have rT := hT4.below acc zT
    have q0 := rT.set0 (.bool tA) (.int .u64 yA) (.slice qA mA dA)
    have q1 := q0.set3 (.bool tB) (.int .u64 yB) (.slice qB mB dB)
    have q2 := q1.set6 (.bool tC) (.int .u64 yC) (.slice qC mC dC)
    have q3 := q2.set9 (.bool tD) (.int .u64 yD) (.slice qD mD dD)
    have jA := (((iA.sets rT.cell2 0 1 2 (.bool tA) (.int .u64 yA) (.slice qA mA dA)).sets q0.cell2 3 4 5 (.bool tB) (.int .u64 yB) (.slice qB mB dB)).sets q1.cell2 6 7 8 (.bool tC) (.int .u64 yC) (.slice qC mC dC)).sets q2.cell2 9 10 11 (.bool tD) (.int .u64 yD) (.slice qD mD dD)
    have jB := (((iB.sets rT.cell2 0 1 2 (.bool tA) (.int .u64 yA) (.slice qA mA dA)).sets q0.cell2 3 4 5 (.bool tB) (.int .u64 yB) (.slice qB mB dB)).sets q1.cell2 6 7 8 (.bool tC) (.int .u64 yC) (.slice qC mC dC)).sets q2.cell2 9 10 11 (.bool tD) (.int .u64 yD) (.slice qD mD dD)
    have jC := (((iC.sets rT.cell2 0 1 2 (.bool tA) (.int .u64 yA) (.slice qA mA dA)).sets q0.cell2 3 4 5 (.bool tB) (.int .u64 yB) (.slice qB mB dB)).sets q1.cell2 6 7 8 (.bool tC) (.int .u64 yC) (.slice qC mC dC)).sets q2.cell2 9 10 11 (.bool tD) (.int .u64 yD) (.slice qD mD dD)
    have jD := (((iD.sets rT.cell2 0 1 2 (.bool tA) (.int .u64 yA) (.slice qA mA dA)).sets q0.cell2 3 4 5 (.bool tB) (.int .u64 yB) (.slice qB mB dB)).sets q1.cell2 6 7 8 (.bool tC) (.int .u64 yC) (.slice qC mC dC)).sets q2.cell2 9 10 11 (.bool tD) (.int .u64 yD) (.slice qD mD dD)
    have kk : ∀ k,k ≠ s → ((((((((((((wD.setCell ⟨s,0,none⟩ (.bool tA)).setCell ⟨s,1,none⟩ (.int .u64 yA)).setCell ⟨s,2,none⟩ (.slice qA mA dA)).setCell ⟨s,3,none⟩ (.bool tB)).setCell ⟨s,4,none⟩ (.int .u64 yB)).setCell ⟨s,5,none⟩ (.slice qB mB dB)).setCell ⟨s,6,none⟩ (.bool tC)).setCell ⟨s,7,none⟩ (.int .u64 yC)).setCell ⟨s,8,none⟩ (.slice qC mC dC)).setCell ⟨s,9,none⟩ (.bool tD)).setCell ⟨s,10,none⟩ (.int .u64 yD)).setCell ⟨s,11,none⟩ (.slice qD mD dD)).heap[k]? = wD.heap[k]? := fun k hk => by
      rw [heap_set hk,heap_set hk,heap_set hk,heap_set hk,heap_set hk,heap_set hk,heap_set hk,heap_set hk,heap_set hk,heap_set hk,heap_set hk,heap_set hk]
    have gE : EBox _ e _ _ := (kk e (by omega)).trans (he4.below acc he4.lt)
    have gA : Arr _ ga _ _ _ := (kk ga (by omega)).trans (ha4.below acc ha4.lt)
    have gB : Arr _ gb _ _ _ := (kk gb (by omega)).trans (hb4.below acc hb4.lt)
    have hsw : w.heap.size ≤ s := by omega
    have gW := (((((((((((((hB4.below acc).setNew hsw 0 (.bool tA)).setNew hsw 1 (.int .u64 yA)).setNew hsw 2 (.slice qA mA dA)).setNew hsw 3 (.bool tB)).setNew hsw 4 (.int .u64 yB)).setNew hsw 5 (.slice qB mB dB)).setNew hsw 6 (.bool tC)).setNew hsw 7 (.int .u64 yC)).setNew hsw 8 (.slice qC mC dC)).setNew hsw 9 (.bool tD)).setNew hsw 10 (.int .u64 yD)).setNew hsw 11 (.slice qD mD dD))
    clear kk
    go_wp2_with fail
    rw [hP]
    exact bodyPost_ret (v := .agg #[.bool tA,.int .u64 yA,.slice qA mA dA,.bool tB,.int .u64 yB,.slice qB mB dB,.bool tC,.int .u64 yC,.slice qC mC dC,.bool tD,.int .u64 yD,.slice qD mD dD]) (results_cell_row Tryz.results49 _ _ s _ _ (0,0) _ rfl q3 Tryz.underlying91 rfl (by kernel_rfl)) rfl
      ⟨_,rfl,⟨tA,tB,tC,tD,yA,yB,yC,yD,qA,qB,qC,qD,mA,mB,mC,mD,dA,dB,dC,dD,rfl,jA,jB,jC,jD⟩,gE,gA,gB,gW⟩
end Go.Proofs.YtogildikglomkaaGreatDoor

namespace Go.Proofs.YtogildikglomkaaGreatDoor
open Go.RowKit
set_option linter.unusedVariables false

theorem IsInt.flag {w : World} {b : Bool} {x : Int} {p : Option Addr} {l c : Nat} {n : Int} (h : IsInt w (.agg #[.bool b,.int .u64 x,.slice p l c]) n) : b = decide (n < 0) := by
  obtain ⟨x',p',l',c',hv,_⟩ := h
  simp only [Value.agg.injEq,Array.mk.injEq,List.cons.injEq,Value.bool.injEq] at hv
  exact hv.1
theorem IsInt.nat {w : World} {b : Bool} {x : Int} {p : Option Addr} {l c : Nat} {n : Int} (h : IsInt w (.agg #[.bool b,.int .u64 x,.slice p l c]) n) : IsNat w (.agg #[.int .u64 x,.slice p l c]) (absI n) := by
  obtain ⟨x',p',l',c',hv,hn⟩ := h
  simp only [Value.agg.injEq,Array.mk.injEq,List.cons.injEq,Value.int.injEq,Value.slice.injEq] at hv
  obtain ⟨_,⟨_,rfl⟩,⟨rfl,rfl,rfl⟩,_⟩ := hv
  exact hn
theorem by_int (K : Nat) (hK : 1 ≤ K) (hK2 : K < 40) (P0 P1 A0 A1 B0 B1 : Int) (v u : Value) (w : World) (hv : IsPair w v P0 P1) (hu : IsTurn w u A0 A1 B0 B1)
    (kp0 : absI P0 < pw K) (kp1 : absI P1 < pw K) (ka0 : absI A0 < pw K) (ka1 : absI A1 < pw K) (kb0 : absI B0 < pw K) (kb1 : absI B1 < pw K) :
    Calls Tryz.prog 48 #[v,u] w fun e w' => ∃ v,e = .returned v ∧ IsPair w' v (P0 * A0 + P1 * A1) (P0 * B0 + P1 * B1) ∧ Below w.heap.size w w' := by
  obtain ⟨x0,p0,l0,c0,x1,p1,l1,c1,rfl,h0,h1⟩ := hv
  obtain ⟨t0,t1,u0,u1,y0,y1,z0,z1,q0,q1,r0,r1,m0,m1,n0,n1,d0,d1,e0,e1,rfl,a0,a1,b0,b1⟩ := hu
  obtain rfl := a0.flag
  obtain rfl := a1.flag
  obtain rfl := b0.flag
  obtain rfl := b1.flag
  exact by_pair K hK hK2 P0 P1 A0 A1 B0 B1 x0 x1 y0 y1 z0 z1 p0 p1 q0 q1 r0 r1 l0 l1 m0 m1 n0 n1 c0 c1 d0 d1 e0 e1 w ⟨_,_,_,_,rfl,h0⟩ ⟨_,_,_,_,rfl,h1⟩ a0 a1 b0 b1 kp0 kp1 ka0 ka1 kb0 kb1
/-- number of one small word: the literal. -/
theorem number_one (x : Int) (hx : 0 ≤ x ∧ x < 18446744073709551616) (b t cap : Nat) (w : World) (ha : Arr w b t .u64 [x]) : Calls Tryz.prog 50 #[.slice (some ⟨b,0,none⟩) 1 cap] w fun e w' => e = .returned (.agg #[.int .u64 x,.slice none 0 0]) ∧ Below w.heap.size w w' := by
  refine (number_any b t 1 cap [x] w ha rfl (Nat.le_refl _) (by decide) (by intro y hy; simp at hy; subst hy; exact hx)).mono ?_
  rintro e w' ⟨v,rfl,hv,hb⟩
  have e1 : seg [x] 0 1 = x := by simp [seg,val]
  rw [e1] at hv
  obtain rfl := hv.one hx.2
  exact ⟨rfl,hb⟩
theorem div_42 (w : World) : Calls Tryz.prog 40 #[.agg #[.int .u64 4,.slice none 0 0],.agg #[.int .u64 2,.slice none 0 0]] w fun e w' => e = .returned (.tuple #[.agg #[.int .u64 2,.slice none 0 0],.agg #[.int .u64 0,.slice none 0 0],.bool true]) ∧ Below w.heap.size w w' := by
  refine (div_any 1 (by decide) _ _ 4 2 w (IsNat.word ⟨by decide,by decide⟩) (IsNat.word ⟨by decide,by decide⟩) (by decide) (by decide)).mono ?_
  rintro e w' ⟨v1,v2,rfl,h1,h2,hb⟩
  obtain rfl := h1.one (by decide)
  obtain rfl := h2.one (by decide)
  exact ⟨rfl,hb⟩
end Go.Proofs.YtogildikglomkaaGreatDoor
