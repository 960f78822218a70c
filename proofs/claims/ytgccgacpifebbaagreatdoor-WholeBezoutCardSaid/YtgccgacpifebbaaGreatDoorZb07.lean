/- Cmp -/
import Derived.Test.YtgccgacpifebbaaGreatDoorZb04
import Derived.Test.YtgccgacpifebbaaGreatDoorZb06
namespace Go.Proofs.YtgccgacpifebbaaGreatDoor
open Go.RowKit Go.Shelf
set_option linter.unusedVariables false
attribute [local go_sem] Oper.semAt_some
/-- -1,0,1: below,alike,above. -/
def cmpI (x y : Int) : Int := if x < y then -1 else if y < x then 1 else 0
theorem cmp_int (x y : Int) (w : World) : Calls Tryz.prog 56 #[.int .i64 x,.int .i64 y] w fun e w' => e = .returned (.int .i64 (cmpI x y)) ∧ w = w' := by
  unfold cmpI
  go_enter Tryz.func56,Tryz.ntmps56
  have hn : (x != x) = false := by simp
  have hn' : (y != y) = false := by simp
  by_cases h1 : x < y
  · go_wp2
    go_ret
    exact ⟨rfl,rfl⟩
  · by_cases h2 : y < x
    · go_wp2
      go_ret
      exact ⟨rfl,rfl⟩
    · go_wp2
      go_ret
      exact ⟨rfl,rfl⟩
theorem cmp_u64 (x y : Int) (w : World) : Calls Tryz.prog 58 #[.int .u64 x,.int .u64 y] w fun e w' => e = .returned (.int .i64 (cmpI x y)) ∧ w = w' := by
  unfold cmpI
  go_enter Tryz.func58,Tryz.ntmps58
  have hn : (x != x) = false := by simp
  have hn' : (y != y) = false := by simp
  by_cases h1 : x < y
  · go_wp2
    go_ret
    exact ⟨rfl,rfl⟩
  · by_cases h2 : y < x
    · go_wp2
      go_ret
      exact ⟨rfl,rfl⟩
    · go_wp2
      go_ret
      exact ⟨rfl,rfl⟩
theorem cmp_len (x y : Int) (p1 p2 : Option Addr) (n1 c1 n2 c2 : Nat) (hne : n1 ≠ n2) (w : World) :
    Calls Tryz.prog 24 #[.agg #[.int .u64 x,.slice p1 n1 c1],.agg #[.int .u64 y,.slice p2 n2 c2]] w fun e w' => e = .returned (.int .i64 (cmpI n1 n2)) ∧ Below w.heap.size w w' := by
  obtain ⟨d,hd⟩ : ∃ d,cmpI n1 n2 = d := ⟨_,rfl⟩
  have hd0 : (d != 0) = true := by subst hd; unfold cmpI; split; rfl; split; rfl; omega
  have hc := cmp_int n1 n2
  rw [hd] at hc ⊢
  clear hd
  go_enter Tryz.func24,Tryz.ntmps24
  go_wp2_with (go_at_call 56; refine (hc _).mono ?_; rintro e w' ⟨rfl,rfl⟩)
  go_returns
  exact ⟨rfl,by go_grown⟩
/-! ### Of one length -/
theorem same_val {l1 l2 : List Int} {len : Nat} (h1 : len ≤ l1.length) (h2 : len ≤ l2.length) (h : ∀ j,j < len → l1.getD j 0 = l2.getD j 0) : val (l1.take len) = val (l2.take len) := by
  rw [← seg_all,← seg_all]
  exact seg_congr (by omega) (by omega) (fun j _ hj => h j (by omega))
theorem cmpI_scale {P A B x y r : Int} (hP : 0 < P) (hA : 0 ≤ A ∧ A < P) (hB : 0 ≤ B ∧ B < P) (hne : x ≠ y) : cmpI (A + P * x + r) (B + P * y + r) = cmpI x y := by
  unfold cmpI
  by_cases h : x < y
  · have : P * (x + 1) ≤ P * y := Int.mul_le_mul_of_nonneg_left (by omega) (by omega)
    rw [Int.mul_add,Int.mul_one] at this
    rw [if_pos h,if_pos (by omega)]
  · have : P * (y + 1) ≤ P * x := Int.mul_le_mul_of_nonneg_left (by omega) (by omega)
    rw [Int.mul_add,Int.mul_one] at this
    rw [if_neg h,if_neg (by omega),if_pos (by omega),if_pos (by omega)]
theorem cmp_val {l1 l2 : List Int} {len j : Nat} (h1 : len ≤ l1.length) (h2 : len ≤ l2.length) (hw1 : Words l1) (hw2 : Words l2) (hj : j < len) (he : ∀ i,j < i → i < len → l1.getD i 0 = l2.getD i 0) (hne : l1.getD j 0 ≠ l2.getD j 0) :
    cmpI (val (l1.take len)) (val (l2.take len)) = cmpI (l1.getD j 0) (l2.getD j 0) := by
  obtain ⟨m,rfl⟩ : ∃ m,len = j + 1 + m := ⟨len - (j + 1),by omega⟩
  have b1 := seg_bd hw1 0 j (by omega)
  have b2 := seg_bd hw2 0 j (by omega)
  rw [← seg_all,← seg_all,seg_add (l := l1) (o := 0) (k := j + 1) (m := m) (by omega),seg_add (l := l2) (o := 0) (k := j + 1) (m := m) (by omega),seg_succ (l := l1) (o := 0) (k := j) (by omega),seg_succ (l := l2) (o := 0) (k := j) (by omega),
    seg_congr (l := l1) (l' := l2) (o := 0 + (j + 1)) (k := m) (by omega) (by omega) (fun i hi1 hi2 => he i (by omega) (by omega)),Nat.zero_add]
  exact cmpI_scale (pw_pos j) b1 b2 hne
theorem mem_down {l : List Int} {len : Nat} : ∀ {k h} {x : At l len},len - 1 - k < x.1.1 ∨ (len = k ∧ True) → x ∈ down l len k h
  | 0,h,x,hx => by have := x.2.1; omega
  | k + 1,h,x,hx => by
    by_cases he : x.1.1 = len - 1 - k
    · rw [down_next l len k h x he]; simp
    · have h1 := x.2.1
      show x ∈ down l len k _ ++ [_]
      exact List.mem_append.2 (.inl (mem_down (by omega)))
/-- The call of Cmp over two numbers of one word each. -/
theorem cmp_words (n m : Int) (w : World) :
    Calls Tryz.prog 24 #[.agg #[.int .u64 n,.slice none 0 0],.agg #[.int .u64 m,.slice none 0 0]] w fun e w' => e = .returned (.int .i64 (cmpI n m)) ∧ Below w.heap.size w w' := by
  have hc := cmp_int 0 0
  have h00 : cmpI 0 0 = 0 := rfl
  rw [h00] at hc
  clear h00
  refine (callsIn_wide (n := 5)).1 ?_
  refine callsIn_of_wp_marks Tryz.func24 rfl trivial ?_ rfl
  simp only [Tryz.ntmps24,List.size_toArray,List.length_cons,List.length_nil,Nat.reduceAdd,Nat.reduceSub,Array.replicate_succ,Array.replicate_zero,List.push_toArray,List.append_toArray,List.nil_append,List.cons_append]
  gi_wp2_with (first | (refine ⟨trivial,?_⟩; gi_at_call 56; refine (callsIn_wide.2 (hc _)).mono ?_; rintro e w' ⟨rfl,rfl⟩) | (refine ⟨trivial,?_⟩; gi_at_call 57; refine (back_in Fence.wide 4 trivial rfl _ _ _ _).mono ?_; rintro e w' ⟨rfl,rfl⟩))
  have hB0 : Below w.heap.size w ((((w.alloc (.cells #[.int .u64 n,.slice none 0 0] 26)).alloc (.cells #[.int .u64 m,.slice none 0 0] 26)).alloc (.cells #[.int .i64 0] 3)).alloc (.cells #[.slice none 0 0] 24)) := by go_grown
  refine wpIn_rangeFunc_ownG rfl (by decide) (gf := 87) (lb := #[.pointer (some ⟨w.heap.size + 1 + 1 + 1,0,none⟩)]) rfl trivial (enters_of Tryz.func87 (by kernel_rfl) rfl)
    (back_stops_nil Fence.wide 4 trivial rfl (w.heap.size + 1 + 1 + 1) (w.heap.size + 1 + 1 + 1 + 1) ((((w.alloc (.cells #[.int .u64 n,.slice none 0 0] 26)).alloc (.cells #[.int .u64 m,.slice none 0 0] 26)).alloc (.cells #[.int .i64 0] 3)).alloc (.cells #[.slice none 0 0] 24)) (by simp) (by simp [go_sem])) belowK_t (belowK_b (by simp)) (Below.refl _ _) (fun _ => rfl)
    (fun pre W => Below (w.heap.size + 1 + 1 + 1 + 1) ((((w.alloc (.cells #[.int .u64 n,.slice none 0 0] 26)).alloc (.cells #[.int .u64 m,.slice none 0 0] 26)).alloc (.cells #[.int .i64 0] 3)).alloc (.cells #[.slice none 0 0] 24)) W)
    (fun _ _ _ => False)
    (ownFrom_below (by simp) (by simp))
    (fun _ _ _ _ _ hs _ _ => hs)
    (Below.refl _ _)
    (fun x => { tmps := #[.agg #[.int .u64 n,.slice none 0 0],.agg #[.int .u64 m,.slice none 0 0],.pointer (some ⟨w.heap.size,0,none⟩),.pointer (some ⟨w.heap.size + 1,0,none⟩),.pointer (some ⟨w.heap.size + 1 + 1,0,none⟩),.int .i64 0,.int .i64 (x.1 : Int),.int .u64 x.2,undef,.pointer (some ⟨w.heap.size,1,none⟩),.slice none 0 0,.int .i64 0,.pointer (some ⟨w.heap.size + 1,1,none⟩),.slice none 0 0,.int .i64 0,.int .i64 0,.int .i64 0,.bool false,undef,.pointer (some ⟨w.heap.size,1,none⟩),.slice none 0 0,.func (.func 87) #[] #[.pointer (some ⟨w.heap.size + 1 + 1 + 1,0,none⟩)],.int .i64 (x.1 : Int),.int .u64 x.2,undef,undef,undef,undef,undef,undef,undef,undef,undef,undef,undef,undef,undef,undef,undef],defers := [] }) ?assign ?body ?done ?stop
  case assign =>
    intro l x W K hK
    gi_wp2
    exact hK
  case body =>
    intro l pre x W hB hlen
    exact absurd hlen (Nat.not_lt_zero _)
  case done =>
    rintro D ys W hD rfl hB hK
    obtain ⟨hcl,hfr⟩ := bcell (W := (((w.alloc _).alloc _).alloc _).alloc _) (by simpa using hB)
    have hcr : W.cell? ⟨w.heap.size + 1 + 1,0,none⟩ = some (.int .i64 0) := by rw [hcl _ _ (by simp)]; simp [go_sem]
    gi_wp2_with (refine ⟨trivial,?_⟩; gi_at_call 58; refine (callsIn_wide.2 (cmp_u64 _ _ _)).mono ?_; rintro e w' ⟨rfl,rfl⟩)
    have hK' := (KeepsOthers.setCell W ⟨w.heap.size + 1 + 1,0,none⟩ (.int .i64 (cmpI n m))).same D _ hK rfl
    refine ⟨by simp,.inl ⟨_,_,rfl,run_takeDeferred hK',?_⟩⟩
    have hc5 := cell_kept (World.cell?_setCell_same' W ⟨w.heap.size + 1 + 1,0,none⟩ (.int .i64 (cmpI n m)) (by rw [hcr]; rfl)) (grownBy_putObj' _ D (.deferred none)) (fun r e => by cases e; exact ⟨_,hK',rfl⟩)
    have hBw : Below w.heap.size w W := hB0.trans (hB.mono (by omega))
    refine ⟨.int .i64 (cmpI n m),?_,rfl,(hBw.setCell (p := ⟨w.heap.size + 1 + 1,0,none⟩) (by show w.heap.size ≤ w.heap.size + 1 + 1; omega) _).trans (belowK_b (w := w) (Nat.le_refl _) _ D _ _ (by simp at hD; omega) hK' rfl rfl)⟩
    simp [results,Tryz.results24,go_sem,hc5]
  case stop =>
    rintro D c pre W _ _ h _
    exact h.elim
set_option maxRecDepth 100000 in
set_option maxHeartbeats 1000000 in
/-- The call of Cmp over two numbers of as many words. -/
theorem cmp_same (b1 b2 t1 t2 len c1 c2 : Nat) (l1 l2 : List Int) (w : World) (ha1 : Arr w b1 t1 .u64 l1) (ha2 : Arr w b2 t2 .u64 l2) (h1 : len ≤ l1.length) (h2 : len ≤ l2.length) (hm : len ≤ 140737488355328) (hw1 : Words l1) (hw2 : Words l2) :
    Calls Tryz.prog 24 #[.agg #[.int .u64 0,.slice (some ⟨b1,0,none⟩) len c1],.agg #[.int .u64 0,.slice (some ⟨b2,0,none⟩) len c2]] w fun e w' => e = .returned (.int .i64 (cmpI (val (l1.take len)) (val (l2.take len)))) ∧ Below w.heap.size w w' := by
  have hc := cmp_int len len
  have h00 : cmpI (len : Int) len = 0 := by simp [cmpI]
  rw [h00] at hc
  clear h00
  have k1 := ha1.lt
  have k2 := ha2.lt
  obtain ⟨V,hV⟩ : ∃ V,cmpI (val (l1.take len)) (val (l2.take len)) = V := ⟨_,rfl⟩
  rw [hV]
  have HV := Lib.hid hV
  clear hV
  refine (callsIn_wide (n := 5)).1 ?_
  refine callsIn_of_wp_marks Tryz.func24 rfl trivial ?_ rfl
  simp only [Tryz.ntmps24,List.size_toArray,List.length_cons,List.length_nil,Nat.reduceAdd,Nat.reduceSub,Array.replicate_succ,Array.replicate_zero,List.push_toArray,List.append_toArray,List.nil_append,List.cons_append]
  gi_wp2_with (first | (refine ⟨trivial,?_⟩; gi_at_call 56; refine (callsIn_wide.2 (hc _)).mono ?_; rintro e w' ⟨rfl,rfl⟩) | (refine ⟨trivial,?_⟩; gi_at_call 57; refine (back_in Fence.wide 4 trivial rfl _ _ _ _).mono ?_; rintro e w' ⟨rfl,rfl⟩))
  have hB0 : Below w.heap.size w ((((w.alloc (.cells #[.int .u64 0,.slice (some ⟨b1,0,none⟩) len c1] 26)).alloc (.cells #[.int .u64 0,.slice (some ⟨b2,0,none⟩) len c2] 26)).alloc (.cells #[.int .i64 0] 3)).alloc (.cells #[.slice (some ⟨b1,0,none⟩) len c1] 24)) := by go_grown
  have hI : ∀ j,j < len → World.cell? ((((w.alloc (.cells #[.int .u64 0,.slice (some ⟨b1,0,none⟩) len c1] 26)).alloc (.cells #[.int .u64 0,.slice (some ⟨b2,0,none⟩) len c2] 26)).alloc (.cells #[.int .i64 0] 3)).alloc (.cells #[.slice (some ⟨b1,0,none⟩) len c1] 24)) ⟨b1,j,none⟩ = some (.int .u64 (l1.getD j 0)) := fun j hj => ((((ha1.alloc _).alloc _).alloc _).alloc _).cell j (by omega)
  have hI2 : Arr ((((w.alloc (.cells #[.int .u64 0,.slice (some ⟨b1,0,none⟩) len c1] 26)).alloc (.cells #[.int .u64 0,.slice (some ⟨b2,0,none⟩) len c2] 26)).alloc (.cells #[.int .i64 0] 3)).alloc (.cells #[.slice (some ⟨b1,0,none⟩) len c1] 24)) b2 t2 .u64 l2 := (((ha2.alloc _).alloc _).alloc _).alloc _
  have hV0 : ∀ ys : List (At l1 len),ys = down l1 len len (Nat.le_refl _) → (∀ x ∈ ys,x.1.2 = l2.getD x.1.1 0) → V = 0 := by
    intro ys hy hx
    rw [← HV.out,same_val h1 h2 (fun j hj => ?_)]
    · simp [cmpI]
    · exact hx ⟨(j,l1.getD j 0),hj,rfl⟩ (by rw [hy]; exact mem_down (.inr ⟨rfl,trivial⟩))
  refine wpIn_rangeFunc_ownG rfl (by decide) (gf := 87) (lb := #[.pointer (some ⟨w.heap.size + 1 + 1 + 1,0,none⟩)]) rfl trivial (enters_of Tryz.func87 (by kernel_rfl) rfl)
    (back_stops Fence.wide 4 trivial rfl (by decide) (w.heap.size + 1 + 1 + 1) (w.heap.size + 1 + 1 + 1 + 1) b1 len c1 l1 hm ((((w.alloc (.cells #[.int .u64 0,.slice (some ⟨b1,0,none⟩) len c1] 26)).alloc (.cells #[.int .u64 0,.slice (some ⟨b2,0,none⟩) len c2] 26)).alloc (.cells #[.int .i64 0] 3)).alloc (.cells #[.slice (some ⟨b1,0,none⟩) len c1] 24)) (by omega) (by simp) (by omega) (by simp [go_sem]) hI) belowK_t (belowK_b (by simp)) (Below.refl _ _) (fun _ => rfl)
    (fun pre W => (∀ x ∈ pre,x.1.2 = l2.getD x.1.1 0) ∧ Below (w.heap.size + 1 + 1 + 1 + 1) ((((w.alloc (.cells #[.int .u64 0,.slice (some ⟨b1,0,none⟩) len c1] 26)).alloc (.cells #[.int .u64 0,.slice (some ⟨b2,0,none⟩) len c2] 26)).alloc (.cells #[.int .i64 0] 3)).alloc (.cells #[.slice (some ⟨b1,0,none⟩) len c1] 24)) W)
    (fun c pre W => (c = .ret ∧ ∃ (ini : List (At l1 len)) (last : At l1 len),pre = ini ++ [last] ∧ (∀ x ∈ ini,x.1.2 = l2.getD x.1.1 0) ∧ last.1.2 ≠ l2.getD last.1.1 0 ∧ W.cell? ⟨w.heap.size + 1 + 1,0,none⟩ = some (.int .i64 (cmpI last.1.2 (l2.getD last.1.1 0)))) ∧ Below w.heap.size w W)
    (OwnFrom.and (fun _ _ _ _ hs _ _ => hs) (ownFrom_below (by simp) (by simp)))
    (fun c => OwnFrom.and (Own.from (fun s A B row hs hg hr => by obtain ⟨hc,ini,last,e1,e2,e3,e4⟩ := hs; exact ⟨hc,ini,last,e1,e2,e3,cell_kept e4 hg hr⟩) _) (ownFrom_below (Nat.le_refl _) (by simp; omega)))
    ⟨by simp,Below.refl _ _⟩
    (fun x => { tmps := #[.agg #[.int .u64 0,.slice (some ⟨b1,0,none⟩) len c1],.agg #[.int .u64 0,.slice (some ⟨b2,0,none⟩) len c2],.pointer (some ⟨w.heap.size,0,none⟩),.pointer (some ⟨w.heap.size + 1,0,none⟩),.pointer (some ⟨w.heap.size + 1 + 1,0,none⟩),.int .i64 0,.int .i64 (x.1.1 : Int),.int .u64 x.1.2,undef,.pointer (some ⟨w.heap.size,1,none⟩),.slice (some ⟨b1,0,none⟩) len c1,.int .i64 len,.pointer (some ⟨w.heap.size + 1,1,none⟩),.slice (some ⟨b2,0,none⟩) len c2,.int .i64 len,.int .i64 0,.int .i64 0,.bool false,undef,.pointer (some ⟨w.heap.size,1,none⟩),.slice (some ⟨b1,0,none⟩) len c1,.func (.func 87) #[] #[.pointer (some ⟨w.heap.size + 1 + 1 + 1,0,none⟩)],.int .i64 (x.1.1 : Int),.int .u64 x.1.2,undef,undef,undef,undef,undef,undef,undef,undef,undef,undef,undef,undef,undef,undef,undef],defers := [] }) ?assign ?body ?done ?stop
  case assign =>
    intro l x W K hK
    gi_wp2
    exact hK
  case body =>
    rintro l pre x W ⟨hp,hB⟩ _
    have hi := x.2.1
    obtain ⟨hcl,hfr⟩ := bcell (W := (((w.alloc _).alloc _).alloc _).alloc _) (by simpa using hB)
    have hcr : W.cell? ⟨w.heap.size + 1 + 1,0,none⟩ = some (.int .i64 0) := by rw [hcl _ _ (by simp)]; simp [go_sem]
    have hx2 := (hI2.below hB (by omega)).cell x.1.1 (by omega)
    have hBw : Below w.heap.size w W := hB0.trans (hB.mono (by omega))
    obtain ⟨y,hy⟩ : ∃ y,l2.getD x.1.1 0 = y := ⟨_,rfl⟩
    rw [hy] at hx2
    have hcy := cmp_u64 x.1.2 y
    have Hy := Lib.hid hy
    clear hy
    by_cases hzy : x.1.2 = y
    · have h0 : cmpI x.1.2 y = 0 := by rw [hzy]; simp [cmpI]
      rw [h0] at hcy
      have Hzy := Lib.hid hzy
      clear hzy h0
      gi_wp2_with (refine ⟨trivial,?_⟩; gi_at_call 58; refine (CallsIn.inRound l (callsIn_wide.2 (hcy _))).mono ?_; rintro e w' ⟨rfl,rfl⟩)
      exact ⟨KeepsFrom.refl _ _,Below.refl _ _,⟨fun x hx => (List.mem_append.1 hx).elim (hp x) (fun e => by simp at e; subst e; exact Hzy.out.trans Hy.out.symm),hB⟩⟩
    · have hd0 : (cmpI x.1.2 y != 0) = true := by unfold cmpI; split; rfl; split; rfl; omega
      obtain ⟨d,hd⟩ : ∃ d,cmpI x.1.2 y = d := ⟨_,rfl⟩
      rw [hd] at hcy hd0
      have Hzy := Lib.hid hzy
      have Hd := Lib.hid hd
      clear hzy hd
      gi_wp2_with (refine ⟨trivial,?_⟩; gi_at_call 58; refine (CallsIn.inRound l (callsIn_wide.2 (hcy _))).mono ?_; rintro e w' ⟨rfl,rfl⟩)
      refine ⟨(KeepsOthers.setCell _ _ _).from _,⟨rfl,pre,x,rfl,hp,?_,?_⟩,hBw.setCell (p := ⟨w.heap.size + 1 + 1,0,none⟩) (by show w.heap.size ≤ w.heap.size + 1 + 1; omega) _⟩
      · intro e; exact Hzy.out (e.trans Hy.out)
      · rw [Hy.out,Hd.out]
        exact World.cell?_setCell_same' _ _ _ (by rw [hcr]; rfl)
  case done =>
    rintro D ys W hD hys ⟨hall,hB⟩ hK
    obtain ⟨hcl,hfr⟩ := bcell (W := (((w.alloc _).alloc _).alloc _).alloc _) (by simpa using hB)
    have hcr : W.cell? ⟨w.heap.size + 1 + 1,0,none⟩ = some (.int .i64 0) := by rw [hcl _ _ (by simp)]; simp [go_sem]
    gi_wp2_with (refine ⟨trivial,?_⟩; gi_at_call 58; refine (callsIn_wide.2 (cmp_u64 _ _ _)).mono ?_; rintro e w' ⟨rfl,rfl⟩)
    have hK' := (KeepsOthers.setCell W ⟨w.heap.size + 1 + 1,0,none⟩ (.int .i64 (cmpI 0 0))).same D _ hK rfl
    refine ⟨by simp,.inl ⟨_,_,rfl,run_takeDeferred hK',?_⟩⟩
    have hc5 := cell_kept (World.cell?_setCell_same' W ⟨w.heap.size + 1 + 1,0,none⟩ (.int .i64 (cmpI 0 0)) (by rw [hcr]; rfl)) (grownBy_putObj' _ D (.deferred none)) (fun r e => by cases e; exact ⟨_,hK',rfl⟩)
    have hBw : Below w.heap.size w W := hB0.trans (hB.mono (by omega))
    refine ⟨.int .i64 (cmpI 0 0),?_,by rw [hV0 ys hys hall]; rfl,(hBw.setCell (p := ⟨w.heap.size + 1 + 1,0,none⟩) (by show w.heap.size ≤ w.heap.size + 1 + 1; omega) _).trans (belowK_b (w := w) (Nat.le_refl _) _ D _ _ (by simp at hD; omega) hK' rfl rfl)⟩
    simp [results,Tryz.results24,go_sem,hc5]
  case stop =>
    rintro D c pre W hD ⟨k,hk,hpre⟩ ⟨⟨rfl,ini,last,e1,e2,e3,hcr⟩,hB⟩ hK
    gi_wp2
    refine ⟨by simp,.inl ⟨_,_,rfl,run_takeDeferred hK,?_⟩⟩
    have hc5 := cell_kept hcr (grownBy_putObj' _ D (.deferred none)) (fun r e => by cases e; exact ⟨_,hK,rfl⟩)
    have hVd : V = cmpI last.1.2 (l2.getD last.1.1 0) := by
      cases k with
      | zero => rw [hpre] at e1; simp [down] at e1
      | succ k =>
        rw [hpre] at e1
        obtain ⟨hini,hlast⟩ := List.append_inj' e1 rfl
        have hl : last.1.1 = len - 1 - k := by simp at hlast; rw [← hlast]
        have hj := last.2.1
        rw [← HV.out,last.2.2]
        refine cmp_val h1 h2 hw1 hw2 hj ?_ (by rw [← last.2.2]; exact e3)
        intro i hi1 hi2
        exact e2 ⟨(i,l1.getD i 0),hi2,rfl⟩ (by rw [← hini]; exact mem_down (.inl (by show len - 1 - k < i; omega)))
    refine ⟨.int .i64 (cmpI last.1.2 (l2.getD last.1.1 0)),?_,by rw [hVd],hB.trans (belowK_b (w := w) (Nat.le_refl _) W D _ _ (by simp at hD; omega) hK rfl rfl)⟩
    simp [results,Tryz.results24,go_sem,hc5]
theorem cmpI_lt {x y : Int} (h : x < y) : cmpI x y = -1 := by unfold cmpI; rw [if_pos h]
theorem cmpI_gt {x y : Int} (h : y < x) : cmpI x y = 1 := by unfold cmpI; rw [if_neg (by omega),if_pos h]
theorem cmpI_eq {x y : Int} (h : x = y) : cmpI x y = 0 := by unfold cmpI; rw [if_neg (by omega),if_neg (by omega)]
theorem cmp_any (v1 v2 : Value) (n m : Int) (w : World) (h1 : IsNat w v1 n) (h2 : IsNat w v2 m) :
    Calls Tryz.prog 24 #[v1,v2] w fun e w' => e = .returned (.int .i64 (cmpI n m)) ∧ Below w.heap.size w w' := by
  have big : ∀ (len : Nat) (l : List Int),Words l → 2 ≤ len → len ≤ l.length → l.getD (len - 1) 0 ≠ 0 → 18446744073709551616 ≤ val (l.take len) := by
    intro len l hw hp hl hz
    have h := val_low hw (by omega) hl hz
    have h2 := pw_mono (a := 1) (b := len - 1) (by omega)
    simp only [pw] at h2
    omega
  rcases h1 with ⟨wn,rfl⟩ | ⟨b1,t1,n1,c1,l1,rfl,ha1,hp1,hc1,hl1,hb1,hw1,hz1,rfl⟩
  · rcases h2 with ⟨wm,rfl⟩ | ⟨b2,t2,n2,c2,l2,rfl,ha2,hp2,hc2,hl2,hb2,hw2,hz2,rfl⟩
    · exact cmp_words n m w
    · refine (cmp_len n 0 none _ 0 0 n2 c2 (by omega) w).mono fun e w' h => ?_
      have hb := big _ _ hw2 hp2 (by omega) hz2
      unfold Word at wn
      rw [cmpI_lt (by omega)] at h
      rw [cmpI_lt (by omega)]
      exact h
  · rcases h2 with ⟨wm,rfl⟩ | ⟨b2,t2,n2,c2,l2,rfl,ha2,hp2,hc2,hl2,hb2,hw2,hz2,rfl⟩
    · refine (cmp_len 0 m _ none n1 c1 0 0 (by omega) w).mono fun e w' h => ?_
      have hb := big _ _ hw1 hp1 (by omega) hz1
      unfold Word at wm
      rw [cmpI_gt (by omega)] at h
      rw [cmpI_gt (by omega)]
      exact h
    · by_cases he : n1 = n2
      · subst he
        exact cmp_same b1 b2 t1 t2 n1 c1 c2 l1 l2 w ha1 ha2 (by omega) (by omega) (by omega) hw1 hw2
      · refine (cmp_len 0 0 _ _ n1 c1 n2 c2 he w).mono fun e w' h => ?_
        have L1 := val_low hw1 (by omega) (by omega) hz1
        have L2 := val_low hw2 (by omega) (by omega) hz2
        have U1 := seg_bd hw1 0 n1 (by omega)
        have U2 := seg_bd hw2 0 n2 (by omega)
        rw [seg_all] at U1 U2
        by_cases hlt : n1 < n2
        · have := pw_mono (a := n1) (b := n2 - 1) (by omega)
          rw [cmpI_lt (by omega)] at h
          rw [cmpI_lt (by omega)]
          exact h
        · have := pw_mono (a := n2) (b := n1 - 1) (by omega)
          rw [cmpI_gt (by omega)] at h
          rw [cmpI_gt (by omega)]
          exact h
end Go.Proofs.YtgccgacpifebbaaGreatDoor
