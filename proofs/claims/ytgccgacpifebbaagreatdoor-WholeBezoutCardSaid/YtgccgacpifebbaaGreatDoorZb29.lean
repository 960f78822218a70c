/- NumR -/
import Derived.Test.YtgccgacpifebbaaGreatDoorZb28
import Derived.Test.YtgccgacpifebbaaGreatDoorZb04
import Derived.Test.YtgccgacpifebbaaGreatDoorZb17
import Derived.Test.YtgccgacpifebbaaGreatDoorZb21
import Derived.BigRegionIn
import Derived.Test.YtgccgacpifebbaaGreatDoorZb18
namespace Go.Proofs.YtgccgacpifebbaaGreatDoor
open Go.RowKit Go.Shelf
set_option linter.unusedVariables false
attribute [local go_sem] Oper.semAt_some
theorem be_snoc (X y : Int) (m : Nat) (hX : 0 ≤ X) (hy : 0 ≤ y ∧ y < 256) : be (X * 256 + y) (m + 1) = be X m ++ [y] := by
  refine (eq_be (by simp [be_length]) fun j hj => ?_).symm
  by_cases h : j < m
  · rw [List.getD_eq_getElem?_getD,List.getElem?_append_left (by rw [be_length]; exact h),← List.getD_eq_getElem?_getD,be_getD X m j h]
    unfold byteAt
    rw [show m + 1 - 1 - j = (m - 1 - j) + 1 by omega,Int.pow_succ,Int.mul_comm (256 ^ (m - 1 - j)) 256,← Int.ediv_ediv_of_nonneg (by omega)]
    congr 2
    omega
  · obtain rfl : j = m := by omega
    rw [List.getD_eq_getElem?_getD,List.getElem?_append_right (by rw [be_length]; exact Nat.le_refl _),be_length,Nat.sub_self]
    show y = byteAt (X * 256 + y) (j + 1 - 1 - j)
    unfold byteAt
    rw [show j + 1 - 1 - j = 0 by omega]
    simp
    omega
/-- The number so far: H,and i bytes of the word x behind it. -/
def soFar (H x : Int) (i : Nat) : Int := H * 256 ^ i + x / 2 ^ (64 - 8 * i)
theorem soFar_zero {H x : Int} (h : Word x) : soFar H x 0 = H := by
  unfold soFar
  rw [Int.ediv_eq_zero_of_lt h.1 (by have := h.2; simpa using this)]; simp
theorem soFar_all {H x : Int} : soFar H x 8 = H * 18446744073709551616 + x := by
  unfold soFar; simp
theorem soFar_succ {H x : Int} {i : Nat} (hi : i < 8) : soFar H x (i + 1) = soFar H x i * 256 + x / 2 ^ (56 - 8 * i) % 256 := by
  unfold soFar
  have e1 : 64 - 8 * (i + 1) = 56 - 8 * i := by omega
  have e2 : (2 : Int) ^ (64 - 8 * i) = 2 ^ (56 - 8 * i) * 256 := by
    rw [show 64 - 8 * i = (56 - 8 * i) + 8 by omega,Int.pow_add]; rfl
  have e3 : x / (2 ^ (56 - 8 * i) * 256) = x / 2 ^ (56 - 8 * i) / 256 := (Int.ediv_ediv_of_nonneg (Int.le_of_lt (Int.pow_pos (by decide)))).symm
  rw [e1,e2,e3,Int.pow_succ,Int.add_mul,Int.mul_assoc]
  omega
theorem soFar_nonneg {H x : Int} {i : Nat} (hH : 0 ≤ H) (h : Word x) : 0 ≤ soFar H x i := by
  unfold soFar
  have h1 : 0 ≤ H * 256 ^ i := Int.mul_nonneg hH (Int.le_of_lt (Int.pow_pos (by decide)))
  have h2 : 0 ≤ x / 2 ^ (64 - 8 * i) := Int.ediv_nonneg h.1 (Int.le_of_lt (Int.pow_pos (by decide)))
  omega
theorem seg_down {l : List Int} {len k : Nat} (hk : k < len) (hl : len ≤ l.length) : seg l (len - (k + 1)) (k + 1) = seg l (len - k) k * 18446744073709551616 + l.getD (len - 1 - k) 0 := by
  obtain ⟨j,hj⟩ : ∃ j,len - 1 - k = j := ⟨_,rfl⟩
  rw [show len - (k + 1) = j by omega,show len - k = j + 1 by omega,hj,seg_cons (by omega),Int.mul_comm]
  omega
/-- The row has m bytes so far,those of X. -/
def NumR (w : World) (b len cap : Nat) (X : Int) (m : Nat) (W : World) : Prop :=
  Arr W (w.heap.size + 1) 5 .u8 (be X m ++ List.replicate (8 * len - m) 0) ∧
  W.heap[w.heap.size]? = some (.cells #[.int .u64 0,.slice none 0 0] 26 (0,0)) ∧
  W.heap[w.heap.size + 1 + 1]? = some (.cells #[.slice (some ⟨w.heap.size + 1,0,none⟩) m (8 * len)] 22 (0,0)) ∧
  W.heap[w.heap.size + 1 + 1 + 1]? = some (.cells #[.slice (some ⟨b,0,none⟩) len cap] 24 (0,0)) ∧ Below w.heap.size w W
/-- What holds at round k: the row has the bytes of the k highest words. -/
def NumI (w : World) (b len cap : Nat) (l : List Int) (k : Nat) (W : World) : Prop := NumR w b len cap (seg l (len - k) k) (8 * k) W
theorem numI_own (w : World) (b len cap B : Nat) (l : List Int) (hB : w.heap.size ≤ B) : OwnFrom B (fun k W => NumI w b len cap l k W) := by
  rintro k W W' row ⟨ha,h1,h2,h3,hg⟩ hgr hr
  have hr' := fun r e => (hr r e).2
  exact ⟨heap_cells ha hgr hr',heap_cells h1 hgr hr',heap_cells h2 hgr hr',heap_cells h3 hgr hr',hg.grown hgr hg.size (fun j e => by have := (hr j e).1; omega)⟩
/-- One byte more: the row has room. -/
theorem NumR.run {w W : World} {b len cap m h : Nat} {X y : Int} (hn : NumR w b len cap X m W) (hm : m < 8 * len) (hc : W.cell? ⟨h,0,none⟩ = some (.int .u8 y)) :
    (Builtin.append_ #[22,22] 22 #[.slice (some ⟨w.heap.size + 1,0,none⟩) m (8 * len),.slice (some ⟨h,0,none⟩) 1 1]).run Tryz.prog W = .ok (.slice (some ⟨w.heap.size + 1,0,none⟩) (m + 1) (8 * len)) (W.setCell ⟨w.heap.size + 1,m,none⟩ (.int .u8 y)) := by
  obtain ⟨i,hi,hz,hsz,hb⟩ := info_parts info8
  have hl : (be X m ++ List.replicate (8 * len - m) (0 : Int)).length = 8 * len := by rw [List.length_append,be_length,List.length_replicate]; omega
  have hs : Src Tryz.prog 1 22 (.slice (some ⟨h,0,none⟩) 1 1) 1 [.int .u8 y] W := by
    refine Src.ofSlice W Tryz.underlying22 ⟨h,0,none⟩ 1 1 [.int .u8 y] (by simp) (fun j u hj => ?_) (fun u hu => by simp at hu; subst hu; rfl)
    have hadd : (⟨h,0,none⟩ : Addr).add j = ⟨h,j,none⟩ := by unfold Addr.add; split <;> simp_all
    rcases j with _ | j
    · simp at hj; subst hj; rw [hadd]; exact hc
    · simp at hj
  have hr := run_append_room_src (P := Tryz.prog) W 22 22 22 5 i Tryz.underlying22 hi (w.heap.size + 1) 0 m (8 * len) (.slice (some ⟨h,0,none⟩) 1 1) 1 [.int .u8 y] (by rw [hsz]; exact hs) (by omega)
    (fun j hj => by rw [hsz,hn.1.cell _ (by rw [hl]; simp at hj ⊢; omega)]; rfl) (fun j hj => hn.1.free _)
  rw [hsz,Nat.zero_add,Nat.mul_one] at hr
  exact hr
theorem NumR.snoc {w W : World} {b len cap m : Nat} {X y : Int} (hn : NumR w b len cap X m W) (hm : m < 8 * len) (hX : 0 ≤ X) (hy : 0 ≤ y ∧ y < 256) (hb : b < w.heap.size) :
    NumR w b len cap (X * 256 + y) (m + 1) ((W.setCell ⟨w.heap.size + 1,m,none⟩ (.int .u8 y)).setCell ⟨w.heap.size + 1 + 1,0,none⟩ (.slice (some ⟨w.heap.size + 1,0,none⟩) (m + 1) (8 * len))) := by
  obtain ⟨ha,h1,h2,h3,hg⟩ := hn
  have e : (be X m ++ List.replicate (8 * len - m) (0 : Int)).set m y = be (X * 256 + y) (m + 1) ++ List.replicate (8 * len - (m + 1)) 0 := by
    rw [be_snoc X y m hX hy,show 8 * len - m = (8 * len - (m + 1)) + 1 by omega,List.replicate_succ,List.set_append_right _ _ (by rw [be_length]; exact Nat.le_refl _),be_length,Nat.sub_self]
    simp
  refine ⟨?_,?_,?_,?_,?_⟩
  · have := (ha.set m y).other (a := ⟨w.heap.size + 1 + 1,0,none⟩) (by show w.heap.size + 1 ≠ w.heap.size + 1 + 1; omega) (.slice (some ⟨w.heap.size + 1,0,none⟩) (m + 1) (8 * len))
    rwa [e] at this
  · exact (heap_setCell_other _ ⟨w.heap.size + 1 + 1,0,none⟩ _ _ (by show w.heap.size ≠ w.heap.size + 1 + 1; omega)).trans ((heap_setCell_other W ⟨w.heap.size + 1,m,none⟩ _ _ (by show w.heap.size ≠ w.heap.size + 1; omega)).trans h1)
  · exact heap_setCell_same _ _ 0 _ _ _ ((heap_setCell_other W ⟨w.heap.size + 1,m,none⟩ _ _ (by show w.heap.size + 1 + 1 ≠ w.heap.size + 1; omega)).trans h2)
  · exact (heap_setCell_other _ ⟨w.heap.size + 1 + 1,0,none⟩ _ _ (by show w.heap.size + 1 + 1 + 1 ≠ w.heap.size + 1 + 1; omega)).trans ((heap_setCell_other W ⟨w.heap.size + 1,m,none⟩ _ _ (by show w.heap.size + 1 + 1 + 1 ≠ w.heap.size + 1; omega)).trans h3)
  · exact (hg.setCell (p := ⟨w.heap.size + 1,m,none⟩) (by show w.heap.size ≤ w.heap.size + 1; omega) _).setCell (p := ⟨w.heap.size + 1 + 1,0,none⟩) (by show w.heap.size ≤ w.heap.size + 1 + 1; omega) _
theorem NumR.alloc {w W : World} {b len cap m : Nat} {X : Int} (hn : NumR w b len cap X m W) (o : Obj) : NumR w b len cap X m (W.alloc o) := by
  obtain ⟨ha,h1,h2,h3,hg⟩ := hn
  exact ⟨ha.alloc o,(heap_old W o _ (Array.getElem?_eq_some_iff.1 h1).1).trans h1,(heap_old W o _ (Array.getElem?_eq_some_iff.1 h2).1).trans h2,(heap_old W o _ (Array.getElem?_eq_some_iff.1 h3).1).trans h3,hg.alloc hg.size o⟩
theorem NumR.drew {w W : World} {b len cap m : Nat} {X : Int} (hn : NumR w b len cap X m W) : NumR w b len cap X m W.drew := ⟨hn.1,hn.2.1,hn.2.2.1,hn.2.2.2.1,hn.2.2.2.2.drew⟩
theorem NumR.box {w W : World} {b len cap m : Nat} {X : Int} (hn : NumR w b len cap X m W) {i : Nat} {v : Value} : (W.setCell ⟨w.heap.size + 1,i,none⟩ v).cell? ⟨w.heap.size + 1 + 1,0,none⟩ = some (.slice (some ⟨w.heap.size + 1,0,none⟩) m (8 * len)) := by
  rw [cell_of_row _ _ 0 _ _ (0,0) ((heap_setCell_other W ⟨w.heap.size + 1,i,none⟩ _ _ (by show w.heap.size + 1 + 1 ≠ w.heap.size + 1; omega)).trans hn.2.2.1)]; rfl
theorem NumR.boxf {w W : World} {b len cap m : Nat} {X : Int} (hn : NumR w b len cap X m W) {i : Nat} {v : Value} : (W.setCell ⟨w.heap.size + 1,i,none⟩ v).frozen? ⟨w.heap.size + 1 + 1,0,none⟩ = false :=
  frozen_of_row _ _ 0 _ _ ((heap_setCell_other W ⟨w.heap.size + 1,i,none⟩ _ _ (by show w.heap.size + 1 + 1 ≠ w.heap.size + 1; omega)).trans hn.2.2.1)
theorem NumR.box0 {w W : World} {b len cap m : Nat} {X : Int} (hn : NumR w b len cap X m W) : W.cell? ⟨w.heap.size + 1 + 1,0,none⟩ = some (.slice (some ⟨w.heap.size + 1,0,none⟩) m (8 * len)) := by
  rw [cell_of_row _ _ 0 _ _ (0,0) hn.2.2.1]; rfl
theorem cellNew8 (w : World) (y : Int) : (w.alloc (.cells #[.int .u8 y] 5)).cell? ⟨w.heap.size,0,none⟩ = some (.int .u8 y) := by
  rw [cell_of_row _ w.heap.size 0 _ _ (0,0) (heap_new _ _ _ rfl)]; rfl
theorem step_append_num {F : Fence} {n : Nat} {P : Program} {ops : Array Oper} {o : Oper} {a : Act} {w : World} {K : Act → World → Prop} {Q : Exit → Act → World → Prop} {E : Prop}
    (hg : o.guard = none) (s x : Operand) (t tx : TypeId) (hop : o.op = .call { callee := .builtin .append,args := #[s,x],argTypes := #[t,tx] }) (vs vx : Value) (hs : a.eval s = vs) (hx : a.eval x = vx)
    (v' : Value) (w' : World) (hr : (Builtin.append_ #[t,tx] o.type #[vs,vx]).run P w = .ok v' w') (hK : K (a.put o.dst v') w') :
    if Region.wanted o (yielded ops a.tmps) = true then Oper.wpIn F n P o a w K Q else E := by
  have hw : Region.wanted o (yielded ops a.tmps) = true := by simp [Region.wanted,hg]
  rw [if_pos hw]
  refine ⟨fun f hf => ?_,?_⟩
  · simp [Oper.about,hop,resolve,Target.leads,Sem.run_pure] at hf
  · rw [Oper.semAt_plain F _ _ (by rw [hop]; intro c hc'; cases hc')]
    simp only [execOp,hop,resolve,invoke,builtin,Sem.run_bind,Sem.run_pure,Result.andThen_ok,List.map_toArray,List.map_cons,List.map_nil,hs,hx,hr]
    exact hK
theorem make8r (c : Nat) (i : Int) (hi : i = c) (hc : c ≤ 281474976710656) (w : World) :
    (Instr.makeSlice 22 (.int .i64 0) (.int .i64 i)).run Tryz.prog w = .ok (.slice (some ⟨w.heap.size,0,none⟩) 0 c) (w.alloc (.cells (zeros .u8 c) 5)) := by
  subst hi
  obtain ⟨i0,hi,hz0,hz1,hz2⟩ := info_parts info8
  have hr := run_make (P := Tryz.prog) w 22 5 i0 _ Tryz.underlying22 hi hz0 .i64 .i64 0 c (by omega) (by omega) (by rw [hz2]; omega) (by omega)
  rw [hr,Int.toNat_natCast,hz1,Nat.mul_one]
  show Result.ok _ (w.alloc (.cells (madeCells #[.int .u8 0] c) 5)) = _
  rw [madeCells_zeros]
  rfl
set_option maxRecDepth 100000 in
set_option maxHeartbeats 2000000 in
theorem number_row (b t len cap : Nat) (l : List Int) (w : World) (ha : Arr w b t .u64 l) (hl : len ≤ l.length) (h1 : 1 ≤ len) (hm : len ≤ 50) (hw : Words l) :
    Calls Tryz.prog 35 #[.slice (some ⟨b,0,none⟩) len cap] w (RetNat (seg l 0 len) w) := by
  have k1 := ha.lt
  have Hl := Lib.hid hl
  clear hl
  have e8 : IntKind.i64.wrap ((len : Int) * 8) = (len : Int) * 8 := by rw [IntKind.wrap_i64]; omega
  have hmk := make8r (8 * len) ((len : Int) * 8) (by omega) (by omega)
  refine (callsIn_wide (n := 5)).1 ?_
  refine callsIn_of_wp_marks Tryz.func35 rfl trivial ?_ rfl
  simp only [Tryz.ntmps35,List.size_toArray,List.length_cons,List.length_nil,Nat.reduceAdd,Nat.reduceSub,Array.replicate_succ,Array.replicate_zero,List.push_toArray,List.append_toArray,List.nil_append,List.cons_append]
  gi_wp2_with (refine ⟨trivial,?_⟩; gi_at_call 57; refine (back_in Fence.wide 4 trivial rfl _ _ _ _).mono ?_; rintro e w' ⟨rfl,rfl⟩)
  have hz : ((((w.alloc (.cells #[.int .u64 0,.slice none 0 0] 26)).alloc (.cells (zeros .u8 (8 * len)) 5)).alloc (.cells #[.slice (some ⟨w.heap.size + 1,0,none⟩) 0 (8 * len)] 22)).alloc (.cells #[.slice (some ⟨b,0,none⟩) len cap] 24)).heap.size = w.heap.size + 1 + 1 + 1 + 1 := by simp
  have i0 : NumI w b len cap l 0 ((((w.alloc (.cells #[.int .u64 0,.slice none 0 0] 26)).alloc (.cells (zeros .u8 (8 * len)) 5)).alloc (.cells #[.slice (some ⟨w.heap.size + 1,0,none⟩) 0 (8 * len)] 22)).alloc (.cells #[.slice (some ⟨b,0,none⟩) len cap] 24)) := by
    refine ⟨?_,?_,?_,?_,by go_grown⟩
    · have := ((Arr.zeros (w.alloc (.cells #[.int .u64 0,.slice none 0 0] 26)) 5 .u8 (8 * len) (w.heap.size + 1) (by simp)).alloc (.cells #[.slice (some ⟨w.heap.size + 1,0,none⟩) 0 (8 * len)] 22)).alloc (.cells #[.slice (some ⟨b,0,none⟩) len cap] 24)
      simpa [be] using this
    · exact (heap_old _ _ _ (by simp; omega)).trans ((heap_old _ _ _ (by simp; omega)).trans ((heap_old _ _ _ (by simp)).trans (heap_new _ _ _ rfl)))
    · exact (heap_old _ _ _ (by simp)).trans (heap_new _ _ _ (by simp))
    · exact heap_new _ _ _ (by simp)
  generalize ((((w.alloc (.cells #[.int .u64 0,.slice none 0 0] 26)).alloc (.cells (zeros .u8 (8 * len)) 5)).alloc (.cells #[.slice (some ⟨w.heap.size + 1,0,none⟩) 0 (8 * len)] 22)).alloc (.cells #[.slice (some ⟨b,0,none⟩) len cap] 24)) = W0 at i0 hz ⊢
  refine wpIn_steps rfl (by decide) (gf := 87) (lb := #[.pointer (some ⟨w.heap.size + 1 + 1 + 1,0,none⟩)]) rfl trivial (enters_of Tryz.func87 (by kernel_rfl) rfl)
    len (fun k => #[.int .i64 ((len - 1 - k : Nat) : Int),.int .u64 (l.getD (len - 1 - k) 0)]) (fun _ => rfl) (fun k W => NumI w b len cap l k W) (numI_own w b len cap _ l (by omega)) i0
    (fun l' J W hJ _ hY h0 => back_steps Fence.wide 4 trivial rfl (by decide) l' (w.heap.size + 1 + 1 + 1) len cap (some ⟨b,0,none⟩) (fun k => l.getD (len - 1 - k) 0) (by omega) J (fun k W h => ?cells) hY W h0)
    (fun k => { tmps := #[.slice (some ⟨b,0,none⟩) len cap,undef,.pointer (some ⟨w.heap.size,0,none⟩),.pointer (some ⟨w.heap.size + 1 + 1,0,none⟩),undef,.int .u64 (l.getD (len - 1 - k) 0),undef,.slice (some ⟨b,0,none⟩) len cap,.int .i64 (len : Int),.int .i64 ((len : Int) * 8),.slice (some ⟨w.heap.size + 1,0,none⟩) 0 (8 * len),.slice (some ⟨b,0,none⟩) len cap,.func (.func 87) #[] #[.pointer (some ⟨w.heap.size + 1 + 1 + 1,0,none⟩)],.int .i64 ((len - 1 - k : Nat) : Int),.int .u64 (l.getD (len - 1 - k) 0),undef,undef,undef,undef,undef,undef,undef,undef,undef,undef,undef,undef,undef,undef,undef],defers := [] }) ?assign ?body ?done
  case cells =>
    obtain ⟨hak,h1,h2,h3,hg⟩ := hJ k W h
    refine ⟨by rw [cell_of_row W _ 0 _ _ (0,0) h3]; rfl,fun hk => ⟨b,rfl,?_⟩⟩
    exact (ha.below hg k1).cell (len - 1 - k) (by have := Hl.out; omega)
  case assign =>
    intro l' k W K hK
    generalize l.getD (len - 1 - k) 0 = z at hK ⊢
    generalize len - 1 - k = j at hK ⊢
    gi_wp2
    exact hK
  case body =>
    rintro l' k V hk hn
    have hx : Word (l.getD (len - 1 - k) 0) := hw.getD _
    have sd := seg_down hk Hl.out
    have hH := (seg_bd hw (len - k) k (by have := Hl.out; omega)).1
    have goal : ∀ W',NumR w b len cap (soFar (seg l (len - k) k) (l.getD (len - 1 - k) 0) 8) (8 * k + 8) W' → NumI w b len cap l (k + 1) W' := fun W' h => by
      rw [soFar_all,← sd] at h
      exact h
    have hn0 : NumR w b len cap (soFar (seg l (len - k) k) (l.getD (len - 1 - k) 0) 0) (8 * k + 0) V := by
      rw [soFar_zero hx]; exact hn
    clear sd hn i0 hmk
    generalize seg l (len - k) k = H at hH goal hn0
    generalize l.getD (len - 1 - k) 0 = x at hx goal hn0 ⊢
    generalize len - 1 - k = j0
    have kk0 := KeepsOthers.refl V
    gi_wp2
    gi_loopw [15] (fun i wr => ∃ j : Nat,j ≤ 8 ∧ i = .int .i64 (j : Int) ∧ NumR w b len cap (soFar H x j) (8 * k + j) wr ∧ KeepsOthers V wr) (fun i _ => (8 - intOf i).toNat)
    case atStart => exact ⟨0,by omega,rfl,hn0,kk0⟩
    case round =>
      obtain ⟨j,hj,rfl,hr,hkk⟩ := hrel
      by_cases h8 : j < 8
      · have hy0 : 0 ≤ x / 2 ^ (56 - 8 * j) % 256 ∧ x / 2 ^ (56 - 8 * j) % 256 < 256 := by omega
        have hs1 := soFar_succ (H := H) (x := x) h8
        have hX0 := soFar_nonneg (i := j) hH hx
        have hm8 : 8 * k + j < 8 * len := by omega
        have hd : IntKind.u8.wrap (x / 2 ^ (56 - 8 * j)) = x / 2 ^ (56 - 8 * j) % 256 := IntKind.wrap_u8 _
        have e1 : (56 : Int) - 8 * (j : Int) = ((56 - 8 * j : Nat) : Int) := by omega
        have s64 : 56 - 8 * j < 64 := by omega
        have ws : IntKind.i64.wrap ((56 - 8 * j : Nat) : Int) = ((56 - 8 * j : Nat) : Int) := by rw [IntKind.wrap_i64]; omega
        have w8 : IntKind.i64.wrap (8 * (j : Int)) = 8 * (j : Int) := by rw [IntKind.wrap_i64]; omega
        have Hgoal := Lib.hid goal
        have Hj := Lib.hid hj
        have H8 := Lib.hid h8
        clear goal hj h8
        have hj8 : (j : Int) < 8 := by have := H8.out; omega
        generalize 56 - 8 * j = s at hy0 hs1 hd e1 s64 ws
        generalize x / 2 ^ s % 256 = y at hy0 hs1 hd
        generalize soFar H x j = X at hr hs1 hX0
        obtain ⟨m,hmm⟩ : ∃ m,8 * k + j = m := ⟨_,rfl⟩
        rw [hmm] at hr hm8
        have Hs := Lib.hid hs1
        have Hm := Lib.hid hmm
        clear hs1 hmm hn0
        gi_wp2
        refine region_ways (by kernel_rfl) fun R hR => ?_
        have Uu := fun (n : Nat) (l : Array Bool) (a : Act) (w : World) (h : R n l a w) => cast (congrFun (congrFun (congrFun (congrFun hR.symm n) l) a) w) h
        have H0 : ∀ (W : World) (kk : KeepsOthers V W) (nf : NumR w b len cap (X * 256 + y) (m + 1) W) (h : Nat),R 0 #[true,true,true,true,true,true,true,true,true,true] { tmps := #[.slice (some ⟨b,0,none⟩) len cap,undef,.pointer (some ⟨w.heap.size,0,none⟩),.pointer (some ⟨w.heap.size + 1 + 1,0,none⟩),undef,.int .u64 x,.int .i64 (j : Int),.slice (some ⟨b,0,none⟩) len cap,.int .i64 (len : Int),.int .i64 ((len : Int) * 8),.slice (some ⟨w.heap.size + 1,0,none⟩) 0 (8 * len),.slice (some ⟨b,0,none⟩) len cap,.func (.func 87) #[] #[.pointer (some ⟨w.heap.size + 1 + 1 + 1,0,none⟩)],.int .i64 (j0 : Int),.int .u64 x,.int .i64 (j : Int),.bool true,.int .i64 (j : Int),.slice (some ⟨w.heap.size + 1,0,none⟩) m (8 * len),.int .u64 x,.int .i64 (j : Int),.int .i64 (8 * (j : Int)),.int .i64 (s : Int),.int .u64 (x / 2 ^ s),.int .u8 y,.slice (some ⟨h,0,none⟩) 1 1,.slice (some ⟨w.heap.size + 1,0,none⟩) (m + 1) (8 * len),u27,undef,undef],defers := [] } W := by
          intro W kk nf h
          rw [← hR]
          refine wpAnyIn_done (by kernel_rfl) ?_ _
          gi_wp2
          refine ⟨⟨j + 1,by have := H8.out; omega,by first | rfl | (congr 1),?_,kk⟩,by have := H8.out; simp [intOf]; omega⟩
          rw [Hs.out,show 8 * k + (j + 1) = m + 1 by have := Hm.out; omega]
          exact nf
        have H1 : ∀ (W : World) (kk : KeepsOthers V W) (U : World) (nu : NumR w b len cap X m U) (hU : U.setCell ⟨w.heap.size + 1,m,none⟩ (.int .u8 y) = W) (h : Nat),R 1 #[true,true,true,true,true,true,true,true,true,false] { tmps := #[.slice (some ⟨b,0,none⟩) len cap,undef,.pointer (some ⟨w.heap.size,0,none⟩),.pointer (some ⟨w.heap.size + 1 + 1,0,none⟩),undef,.int .u64 x,.int .i64 (j : Int),.slice (some ⟨b,0,none⟩) len cap,.int .i64 (len : Int),.int .i64 ((len : Int) * 8),.slice (some ⟨w.heap.size + 1,0,none⟩) 0 (8 * len),.slice (some ⟨b,0,none⟩) len cap,.func (.func 87) #[] #[.pointer (some ⟨w.heap.size + 1 + 1 + 1,0,none⟩)],.int .i64 (j0 : Int),.int .u64 x,.int .i64 (j : Int),.bool true,.int .i64 (j : Int),.slice (some ⟨w.heap.size + 1,0,none⟩) m (8 * len),.int .u64 x,.int .i64 (j : Int),.int .i64 (8 * (j : Int)),.int .i64 (s : Int),.int .u64 (x / 2 ^ s),.int .u8 y,.slice (some ⟨h,0,none⟩) 1 1,.slice (some ⟨w.heap.size + 1,0,none⟩) (m + 1) (8 * len),u27,undef,undef],defers := [] } W := by
          intro W kk U nu hU h
          rw [← hR]
          have c3 : W.cell? ⟨w.heap.size + 1 + 1,0,none⟩ = some (.slice (some ⟨w.heap.size + 1,0,none⟩) m (8 * len)) := by rw [← hU]; exact nu.box
          have f3 : W.frozen? ⟨w.heap.size + 1 + 1,0,none⟩ = false := by rw [← hU]; exact nu.boxf
          refine wpAnyIn_ready (rs := [9]) (by kernel_rfl) (by simp) ?_
          refine AllReadyIn.cons rfl (fun K hK => ?_) ?_
          · go_simp
            exact hK _ _ (Uu _ _ _ _ (H0 (W.setCell ⟨w.heap.size + 1 + 1,0,none⟩ (.slice (some ⟨w.heap.size + 1,0,none⟩) (m + 1) (8 * len))) (kk.trans (KeepsOthers.setCell _ _ _)) (by rw [← hU]; exact nu.snoc hm8 hX0 hy0 k1) h))
          exact AllReadyIn.nil
        have H2 : ∀ (W : World) (kk : KeepsOthers V W) (nr : NumR w b len cap X m W) (h : Nat) (hc : W.cell? ⟨h,0,none⟩ = some (.int .u8 y)),R 2 #[true,true,true,true,true,true,true,true,false,false] { tmps := #[.slice (some ⟨b,0,none⟩) len cap,undef,.pointer (some ⟨w.heap.size,0,none⟩),.pointer (some ⟨w.heap.size + 1 + 1,0,none⟩),undef,.int .u64 x,.int .i64 (j : Int),.slice (some ⟨b,0,none⟩) len cap,.int .i64 (len : Int),.int .i64 ((len : Int) * 8),.slice (some ⟨w.heap.size + 1,0,none⟩) 0 (8 * len),.slice (some ⟨b,0,none⟩) len cap,.func (.func 87) #[] #[.pointer (some ⟨w.heap.size + 1 + 1 + 1,0,none⟩)],.int .i64 (j0 : Int),.int .u64 x,.int .i64 (j : Int),.bool true,.int .i64 (j : Int),.slice (some ⟨w.heap.size + 1,0,none⟩) m (8 * len),.int .u64 x,.int .i64 (j : Int),.int .i64 (8 * (j : Int)),.int .i64 (s : Int),.int .u64 (x / 2 ^ s),.int .u8 y,.slice (some ⟨h,0,none⟩) 1 1,u26,u27,undef,undef],defers := [] } W := by
          intro W kk nr h hc
          rw [← hR]
          have c3 := nr.box0
          refine wpAnyIn_ready (rs := [8]) (by kernel_rfl) (by simp) ?_
          refine AllReadyIn.cons rfl (fun K hK => ?_) ?_
          · have hrun := nr.run hm8 hc; obtain ⟨W2,hW2⟩ : ∃ W2,W.setCell ⟨w.heap.size + 1,m,none⟩ (.int .u8 y) = W2 := ⟨_,rfl⟩; rw [hW2] at hrun
            refine step_append_num rfl _ _ _ _ rfl _ _ rfl rfl _ _ hrun (hK _ _ ?_)
            exact Uu _ _ _ _ (H1 W2 (kk.trans (by rw [← hW2]; exact KeepsOthers.setCell _ _ _)) W nr hW2 h)
          exact AllReadyIn.nil
        have H3 : ∀ (W : World) (kk : KeepsOthers V W) (nr : NumR w b len cap X m W),R 3 #[true,true,true,true,true,true,true,false,false,false] { tmps := #[.slice (some ⟨b,0,none⟩) len cap,undef,.pointer (some ⟨w.heap.size,0,none⟩),.pointer (some ⟨w.heap.size + 1 + 1,0,none⟩),undef,.int .u64 x,.int .i64 (j : Int),.slice (some ⟨b,0,none⟩) len cap,.int .i64 (len : Int),.int .i64 ((len : Int) * 8),.slice (some ⟨w.heap.size + 1,0,none⟩) 0 (8 * len),.slice (some ⟨b,0,none⟩) len cap,.func (.func 87) #[] #[.pointer (some ⟨w.heap.size + 1 + 1 + 1,0,none⟩)],.int .i64 (j0 : Int),.int .u64 x,.int .i64 (j : Int),.bool true,.int .i64 (j : Int),.slice (some ⟨w.heap.size + 1,0,none⟩) m (8 * len),.int .u64 x,.int .i64 (j : Int),.int .i64 (8 * (j : Int)),.int .i64 (s : Int),.int .u64 (x / 2 ^ s),.int .u8 y,u25,u26,u27,undef,undef],defers := [] } W := by
          intro W kk nr
          rw [← hR]
          have c3 := nr.box0
          refine wpAnyIn_ready (rs := [7]) (by kernel_rfl) (by simp) ?_
          refine AllReadyIn.cons rfl (fun K hK => ?_) ?_
          · go_simp
            exact hK _ _ (Uu _ _ _ _ (H2 (W.alloc (.cells #[.int .u8 y] 5)) (kk.trans (KeepsOthers.alloc _ _)) (nr.alloc _) W.heap.size (cellNew8 W y)))
          exact AllReadyIn.nil
        have H4 : ∀ (W : World) (kk : KeepsOthers V W) (nr : NumR w b len cap X m W),R 4 #[true,true,true,true,true,true,false,false,false,false] { tmps := #[.slice (some ⟨b,0,none⟩) len cap,undef,.pointer (some ⟨w.heap.size,0,none⟩),.pointer (some ⟨w.heap.size + 1 + 1,0,none⟩),undef,.int .u64 x,.int .i64 (j : Int),.slice (some ⟨b,0,none⟩) len cap,.int .i64 (len : Int),.int .i64 ((len : Int) * 8),.slice (some ⟨w.heap.size + 1,0,none⟩) 0 (8 * len),.slice (some ⟨b,0,none⟩) len cap,.func (.func 87) #[] #[.pointer (some ⟨w.heap.size + 1 + 1 + 1,0,none⟩)],.int .i64 (j0 : Int),.int .u64 x,.int .i64 (j : Int),.bool true,.int .i64 (j : Int),.slice (some ⟨w.heap.size + 1,0,none⟩) m (8 * len),.int .u64 x,.int .i64 (j : Int),.int .i64 (8 * (j : Int)),.int .i64 (s : Int),.int .u64 (x / 2 ^ s),u24,u25,u26,u27,undef,undef],defers := [] } W := by
          intro W kk nr
          rw [← hR]
          have c3 := nr.box0
          refine wpAnyIn_ready (rs := [6]) (by kernel_rfl) (by simp) ?_
          refine AllReadyIn.cons rfl (fun K hK => ?_) ?_
          · go_simp
            exact hK _ _ (Uu _ _ _ _ (H3 W kk nr))
          exact AllReadyIn.nil
        have H5 : ∀ (W : World) (kk : KeepsOthers V W) (nr : NumR w b len cap X m W),R 5 #[true,true,true,true,true,false,false,false,false,false] { tmps := #[.slice (some ⟨b,0,none⟩) len cap,undef,.pointer (some ⟨w.heap.size,0,none⟩),.pointer (some ⟨w.heap.size + 1 + 1,0,none⟩),undef,.int .u64 x,.int .i64 (j : Int),.slice (some ⟨b,0,none⟩) len cap,.int .i64 (len : Int),.int .i64 ((len : Int) * 8),.slice (some ⟨w.heap.size + 1,0,none⟩) 0 (8 * len),.slice (some ⟨b,0,none⟩) len cap,.func (.func 87) #[] #[.pointer (some ⟨w.heap.size + 1 + 1 + 1,0,none⟩)],.int .i64 (j0 : Int),.int .u64 x,.int .i64 (j : Int),.bool true,.int .i64 (j : Int),.slice (some ⟨w.heap.size + 1,0,none⟩) m (8 * len),.int .u64 x,.int .i64 (j : Int),.int .i64 (8 * (j : Int)),.int .i64 (s : Int),u23,u24,u25,u26,u27,undef,undef],defers := [] } W := by
          intro W kk nr
          rw [← hR]
          have c3 := nr.box0
          refine wpAnyIn_ready (rs := [5]) (by kernel_rfl) (by simp) ?_
          refine AllReadyIn.cons rfl (fun K hK => ?_) ?_
          · go_simp
            exact hK _ _ (Uu _ _ _ _ (H4 W kk nr))
          exact AllReadyIn.nil
        have H6 : ∀ (W : World) (kk : KeepsOthers V W) (nr : NumR w b len cap X m W),R 6 #[true,true,true,true,false,false,false,false,false,false] { tmps := #[.slice (some ⟨b,0,none⟩) len cap,undef,.pointer (some ⟨w.heap.size,0,none⟩),.pointer (some ⟨w.heap.size + 1 + 1,0,none⟩),undef,.int .u64 x,.int .i64 (j : Int),.slice (some ⟨b,0,none⟩) len cap,.int .i64 (len : Int),.int .i64 ((len : Int) * 8),.slice (some ⟨w.heap.size + 1,0,none⟩) 0 (8 * len),.slice (some ⟨b,0,none⟩) len cap,.func (.func 87) #[] #[.pointer (some ⟨w.heap.size + 1 + 1 + 1,0,none⟩)],.int .i64 (j0 : Int),.int .u64 x,.int .i64 (j : Int),.bool true,.int .i64 (j : Int),.slice (some ⟨w.heap.size + 1,0,none⟩) m (8 * len),.int .u64 x,.int .i64 (j : Int),.int .i64 (8 * (j : Int)),u22,u23,u24,u25,u26,u27,undef,undef],defers := [] } W := by
          intro W kk nr
          rw [← hR]
          have c3 := nr.box0
          refine wpAnyIn_ready (rs := [4]) (by kernel_rfl) (by simp) ?_
          refine AllReadyIn.cons rfl (fun K hK => ?_) ?_
          · go_simp
            exact hK _ _ (Uu _ _ _ _ (H5 W kk nr))
          exact AllReadyIn.nil
        have H7 : ∀ (W : World) (kk : KeepsOthers V W) (nr : NumR w b len cap X m W),R 7 #[true,true,true,false,false,false,false,false,false,false] { tmps := #[.slice (some ⟨b,0,none⟩) len cap,undef,.pointer (some ⟨w.heap.size,0,none⟩),.pointer (some ⟨w.heap.size + 1 + 1,0,none⟩),undef,.int .u64 x,.int .i64 (j : Int),.slice (some ⟨b,0,none⟩) len cap,.int .i64 (len : Int),.int .i64 ((len : Int) * 8),.slice (some ⟨w.heap.size + 1,0,none⟩) 0 (8 * len),.slice (some ⟨b,0,none⟩) len cap,.func (.func 87) #[] #[.pointer (some ⟨w.heap.size + 1 + 1 + 1,0,none⟩)],.int .i64 (j0 : Int),.int .u64 x,.int .i64 (j : Int),.bool true,.int .i64 (j : Int),.slice (some ⟨w.heap.size + 1,0,none⟩) m (8 * len),.int .u64 x,.int .i64 (j : Int),u21,u22,u23,u24,u25,u26,u27,undef,undef],defers := [] } W := by
          intro W kk nr
          rw [← hR]
          have c3 := nr.box0
          refine wpAnyIn_ready (rs := [3]) (by kernel_rfl) (by simp) ?_
          refine AllReadyIn.cons rfl (fun K hK => ?_) ?_
          · go_simp
            exact hK _ _ (Uu _ _ _ _ (H6 W kk nr))
          exact AllReadyIn.nil
        have H8 : ∀ (W : World) (kk : KeepsOthers V W) (nr : NumR w b len cap X m W),R 8 #[true,true,false,false,false,false,false,false,false,false] { tmps := #[.slice (some ⟨b,0,none⟩) len cap,undef,.pointer (some ⟨w.heap.size,0,none⟩),.pointer (some ⟨w.heap.size + 1 + 1,0,none⟩),undef,.int .u64 x,.int .i64 (j : Int),.slice (some ⟨b,0,none⟩) len cap,.int .i64 (len : Int),.int .i64 ((len : Int) * 8),.slice (some ⟨w.heap.size + 1,0,none⟩) 0 (8 * len),.slice (some ⟨b,0,none⟩) len cap,.func (.func 87) #[] #[.pointer (some ⟨w.heap.size + 1 + 1 + 1,0,none⟩)],.int .i64 (j0 : Int),.int .u64 x,.int .i64 (j : Int),.bool true,.int .i64 (j : Int),.slice (some ⟨w.heap.size + 1,0,none⟩) m (8 * len),.int .u64 x,u20,u21,u22,u23,u24,u25,u26,u27,undef,undef],defers := [] } W := by
          intro W kk nr
          rw [← hR]
          have c3 := nr.box0
          refine wpAnyIn_ready (rs := [2]) (by kernel_rfl) (by simp) ?_
          refine AllReadyIn.cons rfl (fun K hK => ?_) ?_
          · go_simp
            exact hK _ _ (Uu _ _ _ _ (H7 W kk nr))
          exact AllReadyIn.nil
        have H9 : ∀ (W : World) (kk : KeepsOthers V W) (nr : NumR w b len cap X m W),R 6 #[true,false,true,true,true,false,false,false,false,false] { tmps := #[.slice (some ⟨b,0,none⟩) len cap,undef,.pointer (some ⟨w.heap.size,0,none⟩),.pointer (some ⟨w.heap.size + 1 + 1,0,none⟩),undef,.int .u64 x,.int .i64 (j : Int),.slice (some ⟨b,0,none⟩) len cap,.int .i64 (len : Int),.int .i64 ((len : Int) * 8),.slice (some ⟨w.heap.size + 1,0,none⟩) 0 (8 * len),.slice (some ⟨b,0,none⟩) len cap,.func (.func 87) #[] #[.pointer (some ⟨w.heap.size + 1 + 1 + 1,0,none⟩)],.int .i64 (j0 : Int),.int .u64 x,.int .i64 (j : Int),.bool true,.int .i64 (j : Int),.slice (some ⟨w.heap.size + 1,0,none⟩) m (8 * len),u19,.int .i64 (j : Int),.int .i64 (8 * (j : Int)),.int .i64 (s : Int),u23,u24,u25,u26,u27,undef,undef],defers := [] } W := by
          intro W kk nr
          rw [← hR]
          have c3 := nr.box0
          refine wpAnyIn_ready (rs := [1]) (by kernel_rfl) (by simp) ?_
          refine AllReadyIn.cons rfl (fun K hK => ?_) ?_
          · go_simp
            exact hK _ _ (Uu _ _ _ _ (H5 W kk nr))
          exact AllReadyIn.nil
        have H10 : ∀ (W : World) (kk : KeepsOthers V W) (nr : NumR w b len cap X m W),R 7 #[true,false,true,true,false,false,false,false,false,false] { tmps := #[.slice (some ⟨b,0,none⟩) len cap,undef,.pointer (some ⟨w.heap.size,0,none⟩),.pointer (some ⟨w.heap.size + 1 + 1,0,none⟩),undef,.int .u64 x,.int .i64 (j : Int),.slice (some ⟨b,0,none⟩) len cap,.int .i64 (len : Int),.int .i64 ((len : Int) * 8),.slice (some ⟨w.heap.size + 1,0,none⟩) 0 (8 * len),.slice (some ⟨b,0,none⟩) len cap,.func (.func 87) #[] #[.pointer (some ⟨w.heap.size + 1 + 1 + 1,0,none⟩)],.int .i64 (j0 : Int),.int .u64 x,.int .i64 (j : Int),.bool true,.int .i64 (j : Int),.slice (some ⟨w.heap.size + 1,0,none⟩) m (8 * len),u19,.int .i64 (j : Int),.int .i64 (8 * (j : Int)),u22,u23,u24,u25,u26,u27,undef,undef],defers := [] } W := by
          intro W kk nr
          rw [← hR]
          have c3 := nr.box0
          refine wpAnyIn_ready (rs := [1,4]) (by kernel_rfl) (by simp) ?_
          refine AllReadyIn.cons rfl (fun K hK => ?_) ?_
          · go_simp
            exact hK _ _ (Uu _ _ _ _ (H6 W kk nr))
          refine AllReadyIn.cons rfl (fun K hK => ?_) ?_
          · go_simp
            exact hK _ _ (Uu _ _ _ _ (H9 W kk nr))
          exact AllReadyIn.nil
        have H11 : ∀ (W : World) (kk : KeepsOthers V W) (nr : NumR w b len cap X m W),R 8 #[true,false,true,false,false,false,false,false,false,false] { tmps := #[.slice (some ⟨b,0,none⟩) len cap,undef,.pointer (some ⟨w.heap.size,0,none⟩),.pointer (some ⟨w.heap.size + 1 + 1,0,none⟩),undef,.int .u64 x,.int .i64 (j : Int),.slice (some ⟨b,0,none⟩) len cap,.int .i64 (len : Int),.int .i64 ((len : Int) * 8),.slice (some ⟨w.heap.size + 1,0,none⟩) 0 (8 * len),.slice (some ⟨b,0,none⟩) len cap,.func (.func 87) #[] #[.pointer (some ⟨w.heap.size + 1 + 1 + 1,0,none⟩)],.int .i64 (j0 : Int),.int .u64 x,.int .i64 (j : Int),.bool true,.int .i64 (j : Int),.slice (some ⟨w.heap.size + 1,0,none⟩) m (8 * len),u19,.int .i64 (j : Int),u21,u22,u23,u24,u25,u26,u27,undef,undef],defers := [] } W := by
          intro W kk nr
          rw [← hR]
          have c3 := nr.box0
          refine wpAnyIn_ready (rs := [1,3]) (by kernel_rfl) (by simp) ?_
          refine AllReadyIn.cons rfl (fun K hK => ?_) ?_
          · go_simp
            exact hK _ _ (Uu _ _ _ _ (H7 W kk nr))
          refine AllReadyIn.cons rfl (fun K hK => ?_) ?_
          · go_simp
            exact hK _ _ (Uu _ _ _ _ (H10 W kk nr))
          exact AllReadyIn.nil
        have H12 : ∀ (W : World) (kk : KeepsOthers V W) (nr : NumR w b len cap X m W),R 9 #[true,false,false,false,false,false,false,false,false,false] { tmps := #[.slice (some ⟨b,0,none⟩) len cap,undef,.pointer (some ⟨w.heap.size,0,none⟩),.pointer (some ⟨w.heap.size + 1 + 1,0,none⟩),undef,.int .u64 x,.int .i64 (j : Int),.slice (some ⟨b,0,none⟩) len cap,.int .i64 (len : Int),.int .i64 ((len : Int) * 8),.slice (some ⟨w.heap.size + 1,0,none⟩) 0 (8 * len),.slice (some ⟨b,0,none⟩) len cap,.func (.func 87) #[] #[.pointer (some ⟨w.heap.size + 1 + 1 + 1,0,none⟩)],.int .i64 (j0 : Int),.int .u64 x,.int .i64 (j : Int),.bool true,.int .i64 (j : Int),.slice (some ⟨w.heap.size + 1,0,none⟩) m (8 * len),u19,u20,u21,u22,u23,u24,u25,u26,u27,undef,undef],defers := [] } W := by
          intro W kk nr
          rw [← hR]
          have c3 := nr.box0
          refine wpAnyIn_ready (rs := [1,2]) (by kernel_rfl) (by simp) ?_
          refine AllReadyIn.cons rfl (fun K hK => ?_) ?_
          · go_simp
            exact hK _ _ (Uu _ _ _ _ (H8 W kk nr))
          refine AllReadyIn.cons rfl (fun K hK => ?_) ?_
          · go_simp
            exact hK _ _ (Uu _ _ _ _ (H11 W kk nr))
          exact AllReadyIn.nil
        have H13 : ∀ (W : World) (kk : KeepsOthers V W) (nr : NumR w b len cap X m W) (h : Nat) (hc : W.cell? ⟨h,0,none⟩ = some (.int .u8 y)),R 3 #[false,true,true,true,true,true,true,true,false,false] { tmps := #[.slice (some ⟨b,0,none⟩) len cap,undef,.pointer (some ⟨w.heap.size,0,none⟩),.pointer (some ⟨w.heap.size + 1 + 1,0,none⟩),undef,.int .u64 x,.int .i64 (j : Int),.slice (some ⟨b,0,none⟩) len cap,.int .i64 (len : Int),.int .i64 ((len : Int) * 8),.slice (some ⟨w.heap.size + 1,0,none⟩) 0 (8 * len),.slice (some ⟨b,0,none⟩) len cap,.func (.func 87) #[] #[.pointer (some ⟨w.heap.size + 1 + 1 + 1,0,none⟩)],.int .i64 (j0 : Int),.int .u64 x,.int .i64 (j : Int),.bool true,.int .i64 (j : Int),u18,.int .u64 x,.int .i64 (j : Int),.int .i64 (8 * (j : Int)),.int .i64 (s : Int),.int .u64 (x / 2 ^ s),.int .u8 y,.slice (some ⟨h,0,none⟩) 1 1,u26,u27,undef,undef],defers := [] } W := by
          intro W kk nr h hc
          rw [← hR]
          have c3 := nr.box0
          refine wpAnyIn_ready (rs := [0]) (by kernel_rfl) (by simp) ?_
          refine AllReadyIn.cons rfl (fun K hK => ?_) ?_
          · go_simp
            exact hK _ _ (Uu _ _ _ _ (H2 W kk nr h hc))
          exact AllReadyIn.nil
        have H14 : ∀ (W : World) (kk : KeepsOthers V W) (nr : NumR w b len cap X m W),R 4 #[false,true,true,true,true,true,true,false,false,false] { tmps := #[.slice (some ⟨b,0,none⟩) len cap,undef,.pointer (some ⟨w.heap.size,0,none⟩),.pointer (some ⟨w.heap.size + 1 + 1,0,none⟩),undef,.int .u64 x,.int .i64 (j : Int),.slice (some ⟨b,0,none⟩) len cap,.int .i64 (len : Int),.int .i64 ((len : Int) * 8),.slice (some ⟨w.heap.size + 1,0,none⟩) 0 (8 * len),.slice (some ⟨b,0,none⟩) len cap,.func (.func 87) #[] #[.pointer (some ⟨w.heap.size + 1 + 1 + 1,0,none⟩)],.int .i64 (j0 : Int),.int .u64 x,.int .i64 (j : Int),.bool true,.int .i64 (j : Int),u18,.int .u64 x,.int .i64 (j : Int),.int .i64 (8 * (j : Int)),.int .i64 (s : Int),.int .u64 (x / 2 ^ s),.int .u8 y,u25,u26,u27,undef,undef],defers := [] } W := by
          intro W kk nr
          rw [← hR]
          have c3 := nr.box0
          refine wpAnyIn_ready (rs := [0,7]) (by kernel_rfl) (by simp) ?_
          refine AllReadyIn.cons rfl (fun K hK => ?_) ?_
          · go_simp
            exact hK _ _ (Uu _ _ _ _ (H3 W kk nr))
          refine AllReadyIn.cons rfl (fun K hK => ?_) ?_
          · go_simp
            exact hK _ _ (Uu _ _ _ _ (H13 (W.alloc (.cells #[.int .u8 y] 5)) (kk.trans (KeepsOthers.alloc _ _)) (nr.alloc _) W.heap.size (cellNew8 W y)))
          exact AllReadyIn.nil
        have H15 : ∀ (W : World) (kk : KeepsOthers V W) (nr : NumR w b len cap X m W),R 5 #[false,true,true,true,true,true,false,false,false,false] { tmps := #[.slice (some ⟨b,0,none⟩) len cap,undef,.pointer (some ⟨w.heap.size,0,none⟩),.pointer (some ⟨w.heap.size + 1 + 1,0,none⟩),undef,.int .u64 x,.int .i64 (j : Int),.slice (some ⟨b,0,none⟩) len cap,.int .i64 (len : Int),.int .i64 ((len : Int) * 8),.slice (some ⟨w.heap.size + 1,0,none⟩) 0 (8 * len),.slice (some ⟨b,0,none⟩) len cap,.func (.func 87) #[] #[.pointer (some ⟨w.heap.size + 1 + 1 + 1,0,none⟩)],.int .i64 (j0 : Int),.int .u64 x,.int .i64 (j : Int),.bool true,.int .i64 (j : Int),u18,.int .u64 x,.int .i64 (j : Int),.int .i64 (8 * (j : Int)),.int .i64 (s : Int),.int .u64 (x / 2 ^ s),u24,u25,u26,u27,undef,undef],defers := [] } W := by
          intro W kk nr
          rw [← hR]
          have c3 := nr.box0
          refine wpAnyIn_ready (rs := [0,6]) (by kernel_rfl) (by simp) ?_
          refine AllReadyIn.cons rfl (fun K hK => ?_) ?_
          · go_simp
            exact hK _ _ (Uu _ _ _ _ (H4 W kk nr))
          refine AllReadyIn.cons rfl (fun K hK => ?_) ?_
          · go_simp
            exact hK _ _ (Uu _ _ _ _ (H14 W kk nr))
          exact AllReadyIn.nil
        have H16 : ∀ (W : World) (kk : KeepsOthers V W) (nr : NumR w b len cap X m W),R 6 #[false,true,true,true,true,false,false,false,false,false] { tmps := #[.slice (some ⟨b,0,none⟩) len cap,undef,.pointer (some ⟨w.heap.size,0,none⟩),.pointer (some ⟨w.heap.size + 1 + 1,0,none⟩),undef,.int .u64 x,.int .i64 (j : Int),.slice (some ⟨b,0,none⟩) len cap,.int .i64 (len : Int),.int .i64 ((len : Int) * 8),.slice (some ⟨w.heap.size + 1,0,none⟩) 0 (8 * len),.slice (some ⟨b,0,none⟩) len cap,.func (.func 87) #[] #[.pointer (some ⟨w.heap.size + 1 + 1 + 1,0,none⟩)],.int .i64 (j0 : Int),.int .u64 x,.int .i64 (j : Int),.bool true,.int .i64 (j : Int),u18,.int .u64 x,.int .i64 (j : Int),.int .i64 (8 * (j : Int)),.int .i64 (s : Int),u23,u24,u25,u26,u27,undef,undef],defers := [] } W := by
          intro W kk nr
          rw [← hR]
          have c3 := nr.box0
          refine wpAnyIn_ready (rs := [0,5]) (by kernel_rfl) (by simp) ?_
          refine AllReadyIn.cons rfl (fun K hK => ?_) ?_
          · go_simp
            exact hK _ _ (Uu _ _ _ _ (H5 W kk nr))
          refine AllReadyIn.cons rfl (fun K hK => ?_) ?_
          · go_simp
            exact hK _ _ (Uu _ _ _ _ (H15 W kk nr))
          exact AllReadyIn.nil
        have H17 : ∀ (W : World) (kk : KeepsOthers V W) (nr : NumR w b len cap X m W),R 7 #[false,true,true,true,false,false,false,false,false,false] { tmps := #[.slice (some ⟨b,0,none⟩) len cap,undef,.pointer (some ⟨w.heap.size,0,none⟩),.pointer (some ⟨w.heap.size + 1 + 1,0,none⟩),undef,.int .u64 x,.int .i64 (j : Int),.slice (some ⟨b,0,none⟩) len cap,.int .i64 (len : Int),.int .i64 ((len : Int) * 8),.slice (some ⟨w.heap.size + 1,0,none⟩) 0 (8 * len),.slice (some ⟨b,0,none⟩) len cap,.func (.func 87) #[] #[.pointer (some ⟨w.heap.size + 1 + 1 + 1,0,none⟩)],.int .i64 (j0 : Int),.int .u64 x,.int .i64 (j : Int),.bool true,.int .i64 (j : Int),u18,.int .u64 x,.int .i64 (j : Int),.int .i64 (8 * (j : Int)),u22,u23,u24,u25,u26,u27,undef,undef],defers := [] } W := by
          intro W kk nr
          rw [← hR]
          have c3 := nr.box0
          refine wpAnyIn_ready (rs := [0,4]) (by kernel_rfl) (by simp) ?_
          refine AllReadyIn.cons rfl (fun K hK => ?_) ?_
          · go_simp
            exact hK _ _ (Uu _ _ _ _ (H6 W kk nr))
          refine AllReadyIn.cons rfl (fun K hK => ?_) ?_
          · go_simp
            exact hK _ _ (Uu _ _ _ _ (H16 W kk nr))
          exact AllReadyIn.nil
        have H18 : ∀ (W : World) (kk : KeepsOthers V W) (nr : NumR w b len cap X m W),R 8 #[false,true,true,false,false,false,false,false,false,false] { tmps := #[.slice (some ⟨b,0,none⟩) len cap,undef,.pointer (some ⟨w.heap.size,0,none⟩),.pointer (some ⟨w.heap.size + 1 + 1,0,none⟩),undef,.int .u64 x,.int .i64 (j : Int),.slice (some ⟨b,0,none⟩) len cap,.int .i64 (len : Int),.int .i64 ((len : Int) * 8),.slice (some ⟨w.heap.size + 1,0,none⟩) 0 (8 * len),.slice (some ⟨b,0,none⟩) len cap,.func (.func 87) #[] #[.pointer (some ⟨w.heap.size + 1 + 1 + 1,0,none⟩)],.int .i64 (j0 : Int),.int .u64 x,.int .i64 (j : Int),.bool true,.int .i64 (j : Int),u18,.int .u64 x,.int .i64 (j : Int),u21,u22,u23,u24,u25,u26,u27,undef,undef],defers := [] } W := by
          intro W kk nr
          rw [← hR]
          have c3 := nr.box0
          refine wpAnyIn_ready (rs := [0,3]) (by kernel_rfl) (by simp) ?_
          refine AllReadyIn.cons rfl (fun K hK => ?_) ?_
          · go_simp
            exact hK _ _ (Uu _ _ _ _ (H7 W kk nr))
          refine AllReadyIn.cons rfl (fun K hK => ?_) ?_
          · go_simp
            exact hK _ _ (Uu _ _ _ _ (H17 W kk nr))
          exact AllReadyIn.nil
        have H19 : ∀ (W : World) (kk : KeepsOthers V W) (nr : NumR w b len cap X m W),R 9 #[false,true,false,false,false,false,false,false,false,false] { tmps := #[.slice (some ⟨b,0,none⟩) len cap,undef,.pointer (some ⟨w.heap.size,0,none⟩),.pointer (some ⟨w.heap.size + 1 + 1,0,none⟩),undef,.int .u64 x,.int .i64 (j : Int),.slice (some ⟨b,0,none⟩) len cap,.int .i64 (len : Int),.int .i64 ((len : Int) * 8),.slice (some ⟨w.heap.size + 1,0,none⟩) 0 (8 * len),.slice (some ⟨b,0,none⟩) len cap,.func (.func 87) #[] #[.pointer (some ⟨w.heap.size + 1 + 1 + 1,0,none⟩)],.int .i64 (j0 : Int),.int .u64 x,.int .i64 (j : Int),.bool true,.int .i64 (j : Int),u18,.int .u64 x,u20,u21,u22,u23,u24,u25,u26,u27,undef,undef],defers := [] } W := by
          intro W kk nr
          rw [← hR]
          have c3 := nr.box0
          refine wpAnyIn_ready (rs := [0,2]) (by kernel_rfl) (by simp) ?_
          refine AllReadyIn.cons rfl (fun K hK => ?_) ?_
          · go_simp
            exact hK _ _ (Uu _ _ _ _ (H8 W kk nr))
          refine AllReadyIn.cons rfl (fun K hK => ?_) ?_
          · go_simp
            exact hK _ _ (Uu _ _ _ _ (H18 W kk nr))
          exact AllReadyIn.nil
        have H20 : ∀ (W : World) (kk : KeepsOthers V W) (nr : NumR w b len cap X m W),R 7 #[false,false,true,true,true,false,false,false,false,false] { tmps := #[.slice (some ⟨b,0,none⟩) len cap,undef,.pointer (some ⟨w.heap.size,0,none⟩),.pointer (some ⟨w.heap.size + 1 + 1,0,none⟩),undef,.int .u64 x,.int .i64 (j : Int),.slice (some ⟨b,0,none⟩) len cap,.int .i64 (len : Int),.int .i64 ((len : Int) * 8),.slice (some ⟨w.heap.size + 1,0,none⟩) 0 (8 * len),.slice (some ⟨b,0,none⟩) len cap,.func (.func 87) #[] #[.pointer (some ⟨w.heap.size + 1 + 1 + 1,0,none⟩)],.int .i64 (j0 : Int),.int .u64 x,.int .i64 (j : Int),.bool true,.int .i64 (j : Int),u18,u19,.int .i64 (j : Int),.int .i64 (8 * (j : Int)),.int .i64 (s : Int),u23,u24,u25,u26,u27,undef,undef],defers := [] } W := by
          intro W kk nr
          rw [← hR]
          have c3 := nr.box0
          refine wpAnyIn_ready (rs := [0,1]) (by kernel_rfl) (by simp) ?_
          refine AllReadyIn.cons rfl (fun K hK => ?_) ?_
          · go_simp
            exact hK _ _ (Uu _ _ _ _ (H9 W kk nr))
          refine AllReadyIn.cons rfl (fun K hK => ?_) ?_
          · go_simp
            exact hK _ _ (Uu _ _ _ _ (H16 W kk nr))
          exact AllReadyIn.nil
        have H21 : ∀ (W : World) (kk : KeepsOthers V W) (nr : NumR w b len cap X m W),R 8 #[false,false,true,true,false,false,false,false,false,false] { tmps := #[.slice (some ⟨b,0,none⟩) len cap,undef,.pointer (some ⟨w.heap.size,0,none⟩),.pointer (some ⟨w.heap.size + 1 + 1,0,none⟩),undef,.int .u64 x,.int .i64 (j : Int),.slice (some ⟨b,0,none⟩) len cap,.int .i64 (len : Int),.int .i64 ((len : Int) * 8),.slice (some ⟨w.heap.size + 1,0,none⟩) 0 (8 * len),.slice (some ⟨b,0,none⟩) len cap,.func (.func 87) #[] #[.pointer (some ⟨w.heap.size + 1 + 1 + 1,0,none⟩)],.int .i64 (j0 : Int),.int .u64 x,.int .i64 (j : Int),.bool true,.int .i64 (j : Int),u18,u19,.int .i64 (j : Int),.int .i64 (8 * (j : Int)),u22,u23,u24,u25,u26,u27,undef,undef],defers := [] } W := by
          intro W kk nr
          rw [← hR]
          have c3 := nr.box0
          refine wpAnyIn_ready (rs := [0,1,4]) (by kernel_rfl) (by simp) ?_
          refine AllReadyIn.cons rfl (fun K hK => ?_) ?_
          · go_simp
            exact hK _ _ (Uu _ _ _ _ (H10 W kk nr))
          refine AllReadyIn.cons rfl (fun K hK => ?_) ?_
          · go_simp
            exact hK _ _ (Uu _ _ _ _ (H17 W kk nr))
          refine AllReadyIn.cons rfl (fun K hK => ?_) ?_
          · go_simp
            exact hK _ _ (Uu _ _ _ _ (H20 W kk nr))
          exact AllReadyIn.nil
        have H22 : ∀ (W : World) (kk : KeepsOthers V W) (nr : NumR w b len cap X m W),R 9 #[false,false,true,false,false,false,false,false,false,false] { tmps := #[.slice (some ⟨b,0,none⟩) len cap,undef,.pointer (some ⟨w.heap.size,0,none⟩),.pointer (some ⟨w.heap.size + 1 + 1,0,none⟩),undef,.int .u64 x,.int .i64 (j : Int),.slice (some ⟨b,0,none⟩) len cap,.int .i64 (len : Int),.int .i64 ((len : Int) * 8),.slice (some ⟨w.heap.size + 1,0,none⟩) 0 (8 * len),.slice (some ⟨b,0,none⟩) len cap,.func (.func 87) #[] #[.pointer (some ⟨w.heap.size + 1 + 1 + 1,0,none⟩)],.int .i64 (j0 : Int),.int .u64 x,.int .i64 (j : Int),.bool true,.int .i64 (j : Int),u18,u19,.int .i64 (j : Int),u21,u22,u23,u24,u25,u26,u27,undef,undef],defers := [] } W := by
          intro W kk nr
          rw [← hR]
          have c3 := nr.box0
          refine wpAnyIn_ready (rs := [0,1,3]) (by kernel_rfl) (by simp) ?_
          refine AllReadyIn.cons rfl (fun K hK => ?_) ?_
          · go_simp
            exact hK _ _ (Uu _ _ _ _ (H11 W kk nr))
          refine AllReadyIn.cons rfl (fun K hK => ?_) ?_
          · go_simp
            exact hK _ _ (Uu _ _ _ _ (H18 W kk nr))
          refine AllReadyIn.cons rfl (fun K hK => ?_) ?_
          · go_simp
            exact hK _ _ (Uu _ _ _ _ (H21 W kk nr))
          exact AllReadyIn.nil
        have H23 : ∀ (W : World) (kk : KeepsOthers V W) (nr : NumR w b len cap X m W),R 10 #[false,false,false,false,false,false,false,false,false,false] { tmps := #[.slice (some ⟨b,0,none⟩) len cap,undef,.pointer (some ⟨w.heap.size,0,none⟩),.pointer (some ⟨w.heap.size + 1 + 1,0,none⟩),undef,.int .u64 x,.int .i64 (j : Int),.slice (some ⟨b,0,none⟩) len cap,.int .i64 (len : Int),.int .i64 ((len : Int) * 8),.slice (some ⟨w.heap.size + 1,0,none⟩) 0 (8 * len),.slice (some ⟨b,0,none⟩) len cap,.func (.func 87) #[] #[.pointer (some ⟨w.heap.size + 1 + 1 + 1,0,none⟩)],.int .i64 (j0 : Int),.int .u64 x,.int .i64 (j : Int),.bool true,.int .i64 (j : Int),u18,u19,u20,u21,u22,u23,u24,u25,u26,u27,undef,undef],defers := [] } W := by
          intro W kk nr
          rw [← hR]
          have c3 := nr.box0
          refine wpAnyIn_ready (rs := [0,1,2]) (by kernel_rfl) (by simp) ?_
          refine AllReadyIn.cons rfl (fun K hK => ?_) ?_
          · go_simp
            exact hK _ _ (Uu _ _ _ _ (H12 W kk nr))
          refine AllReadyIn.cons rfl (fun K hK => ?_) ?_
          · go_simp
            exact hK _ _ (Uu _ _ _ _ (H19 W kk nr))
          refine AllReadyIn.cons rfl (fun K hK => ?_) ?_
          · go_simp
            exact hK _ _ (Uu _ _ _ _ (H22 W kk nr))
          exact AllReadyIn.nil
        exact H23 wr.drew (hkk.trans (KeepsOthers.drew _)) hr.drew
      · obtain rfl : j = 8 := by omega
        gi_wp2
        exact ⟨hkk.from _,goal _ hr⟩
  case done =>
    rintro D W hD ⟨hak,h0,h2,h3,hg⟩ hK
    have hlt := (Array.getElem?_eq_some_iff.1 hK).1
    obtain ⟨m,hm8⟩ : ∃ m,8 * len = m + 1 := ⟨8 * len - 1,by omega⟩
    rw [Nat.sub_self,Nat.sub_self,List.replicate_zero,List.append_nil] at hak
    obtain ⟨s0,sb⟩ := seg_bd hw 0 len (by have := Hl.out; omega)
    rw [pw_256] at sb
    rw [hm8] at hak h2 sb
    have fr := from_any (w.heap.size + 1) 5 m (m + 1) (be (seg l 0 len) (m + 1)) (seg l 0 len) W hak (by rw [be_length]; exact Nat.le_refl _) (Nat.le_refl _) (by omega) (by omega) s0 sb (fun j hj => by rw [be_getD _ _ _ hj,Nat.add_sub_cancel])
    obtain ⟨X,hX⟩ : ∃ X,seg l 0 len = X := ⟨_,rfl⟩
    rw [hX] at fr
    have HX := Lib.hid hX
    clear hX
    have bx : W.cell? ⟨w.heap.size + 1 + 1,0,none⟩ = some (.slice (some ⟨w.heap.size + 1,0,none⟩) (m + 1) (m + 1)) := by rw [cell_of_row W _ 0 _ _ (0,0) h2]; rfl
    have v0 : Var W w.heap.size (.int .u64 0) (.slice none 0 0) := ⟨h0,_,_,_,rfl⟩
    gi_wp2_with (refine ⟨trivial,?_⟩; gi_at_call 62; refine (callsIn_wide.2 fr).mono ?_; rintro e W2 ⟨v,rfl,hv,hb⟩; obtain ⟨va,vp,vl,vc,rfl⟩ := hv.shape; have v2 := v0.below hb v0.lt; have c0 := v2.c0; have c1 := v2.c1; have f0 := v2.free 0; have f1 := v2.free 1)
    have hK2 : ((W2.setCell ⟨w.heap.size,0,none⟩ (.int .u64 va)).setCell ⟨w.heap.size,1,none⟩ (.slice vp vl vc)).heap[D]? = some (.deferred (some [])) := (heap_two (by omega) _ _).trans ((hb.block D hlt).trans hK)
    have r0 := v2.set (.int .u64 va) vp vl vc
    have hv2 := hv.two v2 (.int .u64 va) (.slice vp vl vc)
    have hbw := below_two (hg.trans (hb.mono hg.size)) (Nat.le_refl _) (.int .u64 va) (.slice vp vl vc)
    generalize (W2.setCell ⟨w.heap.size,0,none⟩ (.int .u64 va)).setCell ⟨w.heap.size,1,none⟩ (.slice vp vl vc) = Z at hK2 r0 hv2 hbw ⊢
    refine ⟨by simp,.inl ⟨_,_,rfl,run_takeDeferred hK2,?_⟩⟩
    have hp := grownBy_putObj' Z D (.deferred none)
    have hpr : ∀ r,some D = some r → ∃ o : Obj,Z.heap[r]? = some o ∧ o.isCells = false := fun r e => by cases e; exact ⟨_,hK2,rfl⟩
    have l2 := r0.grown hp (by simp; omega)
    refine ⟨.agg #[.int .u64 va,.slice vp vl vc],?_,_,rfl,by rw [HX.out]; exact hv2.putObj hp hpr,hbw.grown hp hbw.size (fun k e => by cases e; omega)⟩
    simp [results,Tryz.results35,asAddr,run_loadVar_nat l2]
end Go.Proofs.YtgccgacpifebbaaGreatDoor
