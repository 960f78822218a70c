/- DivWords -/
import Derived.Test.YtgccgacpifebbaaGreatDoorZb20
namespace Go.Proofs.YtgccgacpifebbaaGreatDoor
open Go.RowKit Go.Shelf
set_option linter.unusedVariables false
attribute [local go_sem] Oper.semAt_some
theorem Arr.kept {w w' : World} {b q : Nat} {t : TypeId} {k : IntKind} {l : List Int} (h : Arr w b t k l) (hg : w.grownBy w' (some q)) (hq : b ≠ q) : Arr w' b t k l := h.grown hg (by simpa using hq)
theorem heap_kept {w w' : World} {b q : Nat} {o : Obj} (h : w.heap[b]? = some o) (hg : w.grownBy w' (some q)) (hq : b ≠ q) : w'.heap[b]? = some o := (hg.block b (Array.getElem?_eq_some_iff.1 h).1 (by simpa using hq)).trans h
theorem Var.kept {w w' : World} {c q : Nat} {x y : Value} (h : Var w c x y) (hg : w.grownBy w' (some q)) (hq : c ≠ q) : Var w' c x y := h.grown hg (by simpa using hq)
theorem heap_set {W : World} {s c i : Nat} (h : s ≠ c) (x : Value) : (W.setCell ⟨c,i,none⟩ x).heap[s]? = W.heap[s]? := heap_setCell_other W ⟨c,i,none⟩ s x h
theorem below_kept {w W W' : World} {q : Nat} (h : Below w.heap.size w W) (hg : W.grownBy W' (some q)) (hq : w.heap.size ≤ q) : Below w.heap.size w W' := h.grown hg h.size (fun k e => by cases e; exact hq)
theorem IsNat.putObj {w w' : World} {v : Value} {n : Int} {row : Option Nat} (h : IsNat w v n) (hg : w.grownBy w' row) (hr : ∀ r,row = some r → ∃ o : Obj,w.heap[r]? = some o ∧ o.isCells = false) : IsNat w' v n := by
  rcases h with h | ⟨b',t',len',cap',l',e1,ha',r⟩
  · exact .inl h
  · exact .inr ⟨b',t',len',cap',l',e1,heap_cells ha' hg hr,r⟩
/-- What stands through all rounds. -/
def Stat (w : World) (ub qb n xl : Nat) (lv : List Int) (W : World) : Prop :=
  Arr W (w.heap.size + 1 + 1 + 1) 23 .u64 lv ∧ W.heap[w.heap.size + 1 + 1]? = some (.cells #[.int .i64 n] 3 (0,0)) ∧ W.heap[w.heap.size + 1 + 1 + 1 + 1]? = some (.cells #[.slice (some ⟨w.heap.size + 1 + 1 + 1,0,none⟩) n (n + 1)] 24 (0,0)) ∧
  W.heap[ub + 1]? = some (.cells #[.slice (some ⟨ub,0,none⟩) (xl + 1) (xl + 1)] 24 (0,0)) ∧ W.heap[qb + 1]? = some (.cells #[.slice (some ⟨qb,0,none⟩) (xl - n + 1) (xl - n + 1)] 24 (0,0)) ∧
  W.heap[qb + 1 + 1]? = some (.cells #[.slice (some ⟨qb,0,none⟩) (xl - n + 1) (xl - n + 1)] 24 (0,0)) ∧ Var W w.heap.size (.int .u64 0) (.slice none 0 0) ∧ Var W (w.heap.size + 1) (.int .u64 0) (.slice none 0 0) ∧ Below w.heap.size w W
theorem Stat.kept {w : World} {ub qb n xl : Nat} {lv : List Int} {W W' : World} {r : Nat} (h : Stat w ub qb n xl lv W) (hg : W.grownBy W' (some r)) (h1 : w.heap.size + 1 + 1 + 1 + 1 + 1 ≤ r) (h2 : r ≠ ub + 1) (h3 : r ≠ qb + 1) (h4 : r ≠ qb + 1 + 1) : Stat w ub qb n xl lv W' := by
  obtain ⟨a1,a2,a3,a4,a5,a6,a7,a8,a9⟩ := h
  exact ⟨a1.kept hg (by omega),heap_kept a2 hg (by omega),heap_kept a3 hg (by omega),heap_kept a4 hg (by omega),heap_kept a5 hg (by omega),heap_kept a6 hg (by omega),a7.kept hg (by omega),a8.kept hg (by omega),below_kept a9 hg (by omega)⟩
theorem Stat.below {w : World} {ub qb n xl : Nat} {lv : List Int} {W W' : World} (h : Stat w ub qb n xl lv W) (hg : Below W.heap.size W W') : Stat w ub qb n xl lv W' := by
  obtain ⟨a1,a2,a3,a4,a5,a6,a7,a8,a9⟩ := h
  have hb : ∀ {r : Nat} {o : Obj},W.heap[r]? = some o → W'.heap[r]? = some o := fun h => (hg.block _ (Array.getElem?_eq_some_iff.1 h).1).trans h
  exact ⟨a1.below hg a1.lt,hb a2,hb a3,hb a4,hb a5,hb a6,a7.below hg a7.lt,a8.below hg a8.lt,a9.trans (hg.mono a9.size)⟩
def WordsI (w : World) (ub qb n xl : Nat) (lv : List Int) (X V : Int) (k : Nat) (W : World) : Prop :=
  Stat w ub qb n xl lv W ∧ ∃ lu lq,DivsAt X V n (xl + 1) (xl - n + 1) k lu lq ∧ Arr W ub 23 .u64 lu ∧ Arr W qb 23 .u64 lq
theorem wordsI_own (w : World) (ub qb n xl B : Nat) (lv : List Int) (X V : Int) (hB : w.heap.size ≤ B) : OwnFrom B (fun k W => WordsI w ub qb n xl lv X V k W) := by
  rintro k W W' row ⟨⟨a1,a2,a3,a4,a5,a6,a7,a8,a9⟩,lu,lq,hd,hu,hq⟩ hgr hr
  have hr' := fun r e => (hr r e).2
  exact ⟨⟨heap_cells a1 hgr hr',heap_cells a2 hgr hr',heap_cells a3 hgr hr',heap_cells a4 hgr hr',heap_cells a5 hgr hr',heap_cells a6 hgr hr',⟨heap_cells a7.1 hgr hr',a7.2⟩,⟨heap_cells a8.1 hgr hr',a8.2⟩,a9.grown hgr a9.size (fun j e => Nat.le_trans hB (hr j e).1)⟩,lu,lq,hd,heap_cells hu hgr hr',heap_cells hq hgr hr'⟩
/-- The end of a round. -/
theorem words_end {w : World} {ub qb n xl B k i : Nat} {lv lq lu' : List Int} {X V q : Int} {W W3 : World} (hs : Stat w ub qb n xl lv W) (hq : Arr W qb 23 .u64 lq) (hg : W.grownBy W3 (some ub)) (hu : Arr W3 ub 23 .u64 lu') (h1 : w.heap.size + 1 + 1 + 1 + 1 + 1 ≤ ub) (h2 : ub + 1 + 1 ≤ qb) (hB : qb < B)
    (hd : DivsAt X V n (xl + 1) (xl - n + 1) (k + 1) lu' (lq.set i q)) : KeepsFrom B W (W3.setCell ⟨qb,i,none⟩ (.int .u64 q)) ∧ WordsI w ub qb n xl lv X V (k + 1) (W3.setCell ⟨qb,i,none⟩ (.int .u64 q)) := by
  have k1 := KeepsFrom.of_grownBy (B := B) hg (fun j e => by cases e; omega)
  have s3 := hs.kept hg h1 (by omega) (by omega) (by omega)
  have s4 := s3.kept (grownBy_set W3 qb i (.int .u64 q)) (by omega) (by omega) (by omega) (by omega)
  exact ⟨k1.trans ((KeepsOthers.setCell W3 ⟨qb,i,none⟩ (.int .u64 q)).from B),s4,lu',_,hd,hu.other (by show ub ≠ qb; omega) _,(hq.kept hg (by omega)).set i q⟩
theorem lz_any (x : Int) (hx : Word x) (h0 : x ≠ 0) (w : World) : ∃ S : Nat,S ≤ 63 ∧ 9223372036854775808 ≤ x * 2 ^ S ∧ x * 2 ^ S < 18446744073709551616 ∧
    Calls Tryz.prog 96 #[.int .u64 x] w fun e w' => e = .returned (.int .i64 S) ∧ w = w' := by
  have hbl : Lib.bitLen x.toNat ≤ 64 := bitLen_le hx.2
  have hb := isBits_word hx
  have hb1 : 1 ≤ Lib.bitLen x.toNat := (Lib.bitLenAux_bounds 64 x.toNat (by unfold Word at hx; omega) (by unfold Word at hx; omega)).1
  obtain ⟨k,hk⟩ : ∃ k,Lib.bitLen x.toNat = k := ⟨_,rfl⟩
  have hhi := hb.1
  have hlo := hb.2 (by omega)
  have lz := Tryz.bits_LeadingZeros64 x w hx.1 (by have := hx.2; omega)
  rw [hk] at hhi hlo hbl hb1 lz
  refine ⟨64 - k,by omega,?_,?_,?_⟩
  · rw [show (9223372036854775808 : Int) = 2 ^ (k - 1) * 2 ^ (64 - k) by rw [← Int.pow_add,show k - 1 + (64 - k) = 63 by omega]; decide]
    exact Int.mul_le_mul_of_nonneg_right hlo (Int.le_of_lt (Int.pow_pos (by decide)))
  · rw [show (18446744073709551616 : Int) = 2 ^ k * 2 ^ (64 - k) by rw [← Int.pow_add,show k + (64 - k) = 64 by omega]; decide]
    exact Int.mul_lt_mul_of_pos_right hhi (Int.pow_pos (by decide))
  · refine lz.mono ?_
    rintro e w' ⟨rfl,rfl⟩
    rw [show (64 - (k : Int)) = ((64 - k : Nat) : Int) by omega]
    exact ⟨rfl,rfl⟩
set_option maxRecDepth 100000 in
set_option maxHeartbeats 4000000 in
theorem divByWords_any (xb xt xl xc yb yt n yc : Nat) (lx ly : List Int) (w : World) (hx : Arr w xb xt .u64 lx) (hy : Arr w yb yt .u64 ly) (hlx : xl ≤ lx.length) (hly : n ≤ ly.length) (hn : 2 ≤ n) (hnx : n ≤ xl) (hm : xl ≤ 1048576) (hwx : Words lx) (hwy : Words ly) (hz : ly.getD (n - 1) 0 ≠ 0) :
    Calls Tryz.prog 105 #[.slice (some ⟨xb,0,none⟩) xl xc,.slice (some ⟨yb,0,none⟩) n yc] w (RetTwo (val (lx.take xl) / val (ly.take n)) (val (lx.take xl) % val (ly.take n)) w) := by
  have kx := hx.lt
  have ky := hy.lt
  have wy := hwy.getD (n - 1)
  have cy := fun W (g : Below w.heap.size w W) => (hy.below g ky).cell (n - 1) (by omega)
  obtain ⟨top,htop⟩ : ∃ top,ly.getD (n - 1) 0 = top := ⟨_,rfl⟩
  rw [htop] at wy hz cy
  have mkv := make64 (n + 1) ((n : Int) + 1) (by omega) (by omega)
  have mku := make64 (xl + 1) ((xl : Int) + 1) (by omega) (by omega)
  have mkq := make64 (xl - n + 1) ((xl : Int) - n + 1) (by omega) (by omega)
  have g1 : (1 : Int) ≤ (n : Int) := by omega
  have bW : Below w.heap.size w (((w.alloc (.cells #[.int .u64 0,.slice none 0 0] 26)).alloc (.cells #[.int .u64 0,.slice none 0 0] 26)).alloc (.cells #[.int .i64 n] 3)) := by go_grown
  have c0 := cy _ bW
  obtain ⟨S,hS,hS1,hS2,hlz⟩ := lz_any top wy hz (((w.alloc (.cells #[.int .u64 0,.slice none 0 0] 26)).alloc (.cells #[.int .u64 0,.slice none 0 0] 26)).alloc (.cells #[.int .i64 n] 3))
  have Htop := Lib.hid htop
  clear htop
  refine (callsIn_wide (n := 5)).1 ?_
  refine callsIn_of_wp_marks Tryz.func105 rfl trivial ?_ rfl
  simp only [Tryz.ntmps105,List.size_toArray,List.length_cons,List.length_nil,Nat.reduceAdd,Nat.reduceSub,Array.replicate_succ,Array.replicate_zero,List.push_toArray,List.append_toArray,List.nil_append,List.cons_append]
  gi_wp2_with (refine ⟨trivial,?_⟩; gi_at_call 96; refine (callsIn_wide.2 hlz).mono ?_; rintro e w' ⟨rfl,rfl⟩)
  have q1 : Var (((((w.alloc (.cells #[.int .u64 0,.slice none 0 0] 26)).alloc (.cells #[.int .u64 0,.slice none 0 0] 26)).alloc (.cells #[.int .i64 n] 3)).alloc (.cells (zeros .u64 (n + 1)) 23)).alloc (.cells #[.slice (some ⟨w.heap.size + 1 + 1 + 1,0,none⟩) (n + 1) (n + 1)] 24)) (w.heap.size) (.int .u64 0) (.slice none 0 0) := ((((Var.new w w.heap.size _ _ _ _ rfl).alloc _).alloc _).alloc _).alloc _
  have q2 : Var (((((w.alloc (.cells #[.int .u64 0,.slice none 0 0] 26)).alloc (.cells #[.int .u64 0,.slice none 0 0] 26)).alloc (.cells #[.int .i64 n] 3)).alloc (.cells (zeros .u64 (n + 1)) 23)).alloc (.cells #[.slice (some ⟨w.heap.size + 1 + 1 + 1,0,none⟩) (n + 1) (n + 1)] 24)) (w.heap.size + 1) (.int .u64 0) (.slice none 0 0) := (((Var.new (w.alloc _) _ _ _ _ _ (by simp)).alloc _).alloc _).alloc _
  have q3 : (((((w.alloc (.cells #[.int .u64 0,.slice none 0 0] 26)).alloc (.cells #[.int .u64 0,.slice none 0 0] 26)).alloc (.cells #[.int .i64 n] 3)).alloc (.cells (zeros .u64 (n + 1)) 23)).alloc (.cells #[.slice (some ⟨w.heap.size + 1 + 1 + 1,0,none⟩) (n + 1) (n + 1)] 24)).heap[w.heap.size + 1 + 1]? = some (.cells #[.int .i64 n] 3 (0,0)) := (heap_old _ _ _ (by simp)).trans ((heap_old _ _ _ (by simp)).trans (heap_new _ _ _ (by simp)))
  have q4 : Arr (((((w.alloc (.cells #[.int .u64 0,.slice none 0 0] 26)).alloc (.cells #[.int .u64 0,.slice none 0 0] 26)).alloc (.cells #[.int .i64 n] 3)).alloc (.cells (zeros .u64 (n + 1)) 23)).alloc (.cells #[.slice (some ⟨w.heap.size + 1 + 1 + 1,0,none⟩) (n + 1) (n + 1)] 24)) (w.heap.size + 1 + 1 + 1) 23 .u64 (List.replicate (n + 1) 0) := (Arr.zeros _ _ _ (n + 1) _ (by simp)).alloc _
  have q5 : (((((w.alloc (.cells #[.int .u64 0,.slice none 0 0] 26)).alloc (.cells #[.int .u64 0,.slice none 0 0] 26)).alloc (.cells #[.int .i64 n] 3)).alloc (.cells (zeros .u64 (n + 1)) 23)).alloc (.cells #[.slice (some ⟨w.heap.size + 1 + 1 + 1,0,none⟩) (n + 1) (n + 1)] 24)).heap[w.heap.size + 1 + 1 + 1 + 1]? = some (.cells #[.slice (some ⟨w.heap.size + 1 + 1 + 1,0,none⟩) (n + 1) (n + 1)] 24 (0,0)) := heap_new _ _ _ (by simp)
  have qB : Below w.heap.size w (((((w.alloc (.cells #[.int .u64 0,.slice none 0 0] 26)).alloc (.cells #[.int .u64 0,.slice none 0 0] 26)).alloc (.cells #[.int .i64 n] 3)).alloc (.cells (zeros .u64 (n + 1)) 23)).alloc (.cells #[.slice (some ⟨w.heap.size + 1 + 1 + 1,0,none⟩) (n + 1) (n + 1)] 24)) := by go_grown
  have qs : (((((w.alloc (.cells #[.int .u64 0,.slice none 0 0] 26)).alloc (.cells #[.int .u64 0,.slice none 0 0] 26)).alloc (.cells #[.int .i64 n] 3)).alloc (.cells (zeros .u64 (n + 1)) 23)).alloc (.cells #[.slice (some ⟨w.heap.size + 1 + 1 + 1,0,none⟩) (n + 1) (n + 1)] 24)).heap.size = w.heap.size + 1 + 1 + 1 + 1 + 1 := by simp
  generalize (((((w.alloc (.cells #[.int .u64 0,.slice none 0 0] 26)).alloc (.cells #[.int .u64 0,.slice none 0 0] 26)).alloc (.cells #[.int .i64 n] 3)).alloc (.cells (zeros .u64 (n + 1)) 23)).alloc (.cells #[.slice (some ⟨w.heap.size + 1 + 1 + 1,0,none⟩) (n + 1) (n + 1)] 24)) = V0 at q1 q2 q3 q4 q5 qB qs ⊢
  refine ⟨trivial,?_⟩
  gi_at_call 124
  refine (callsIn_wide.2 (shiftUp_any (w.heap.size + 1 + 1 + 1) 23 0 (n + 1) (n + 1) yb yc n S yt (List.replicate (n + 1) 0) ly V0 q4 (hy.below qB ky) (by omega) (Nat.le_refl _) (by simp) hly (by omega) (Words.replicate _) hwy hS)).mono ?_
  rintro e V1 ⟨rfl,lv,av,hlv,wv,_,hsv,gv⟩
  have hub0 : w.heap.size + 1 + 1 + 1 + 1 + 1 ≤ V1.heap.size := by have := gv.size; omega
  replace q1 := q1.kept gv (by omega)
  replace q2 := q2.kept gv (by omega)
  replace q3 := heap_kept q3 gv (by omega)
  replace q5 := heap_kept q5 gv (by omega)
  replace qB := below_kept qB gv (by omega)
  have qs1 : w.heap.size + 1 + 1 + 1 + 1 + 1 ≤ V1.heap.size := by have := gv.size; omega
  clear gv q4 qs
  have b5 : V1.cell? ⟨w.heap.size + 1 + 1 + 1 + 1,0,none⟩ = some (.slice (some ⟨w.heap.size + 1 + 1 + 1,0,none⟩) (n + 1) (n + 1)) := by rw [cell_of_row V1 _ 0 _ _ (0,0) q5]; rfl
  have f5 : V1.frozen? ⟨w.heap.size + 1 + 1 + 1 + 1,0,none⟩ = false := frozen_of_row V1 _ 0 _ _ q5
  have b3 : V1.cell? ⟨w.heap.size + 1 + 1,0,none⟩ = some (.int .i64 n) := by rw [cell_of_row V1 _ 0 _ _ (0,0) q3]; rfl
  have gn : (n : Int) ≤ (n : Int) + 1 := by omega
  gi_wp2_with fail
  have z1 : (V1.setCell ⟨w.heap.size + 1 + 1 + 1 + 1,0,none⟩ (.slice (some ⟨w.heap.size + 1 + 1 + 1,0,none⟩) n (n + 1))).heap.size = V1.heap.size := by simp
  have q6 : Arr (((V1.setCell ⟨w.heap.size + 1 + 1 + 1 + 1,0,none⟩ (.slice (some ⟨w.heap.size + 1 + 1 + 1,0,none⟩) n (n + 1))).alloc (.cells (zeros .u64 (xl + 1)) 23)).alloc (.cells #[.slice (some ⟨V1.heap.size,0,none⟩) (xl + 1) (xl + 1)] 24)) V1.heap.size 23 .u64 (List.replicate (xl + 1) 0) := (Arr.zeros _ _ _ (xl + 1) _ z1.symm).alloc _
  have q7 : (((V1.setCell ⟨w.heap.size + 1 + 1 + 1 + 1,0,none⟩ (.slice (some ⟨w.heap.size + 1 + 1 + 1,0,none⟩) n (n + 1))).alloc (.cells (zeros .u64 (xl + 1)) 23)).alloc (.cells #[.slice (some ⟨V1.heap.size,0,none⟩) (xl + 1) (xl + 1)] 24)).heap[V1.heap.size + 1]? = some (.cells #[.slice (some ⟨V1.heap.size,0,none⟩) (xl + 1) (xl + 1)] 24 (0,0)) := heap_new _ _ _ (by simp)
  replace q5 : (((V1.setCell ⟨w.heap.size + 1 + 1 + 1 + 1,0,none⟩ (.slice (some ⟨w.heap.size + 1 + 1 + 1,0,none⟩) n (n + 1))).alloc (.cells (zeros .u64 (xl + 1)) 23)).alloc (.cells #[.slice (some ⟨V1.heap.size,0,none⟩) (xl + 1) (xl + 1)] 24)).heap[w.heap.size + 1 + 1 + 1 + 1]? = some (.cells #[.slice (some ⟨w.heap.size + 1 + 1 + 1,0,none⟩) n (n + 1)] 24 (0,0)) := (heap_old _ _ _ (by simp; omega)).trans ((heap_old _ _ _ (by simp; omega)).trans (heap_setCell_same V1 _ 0 _ _ _ q5))
  replace q3 : (((V1.setCell ⟨w.heap.size + 1 + 1 + 1 + 1,0,none⟩ (.slice (some ⟨w.heap.size + 1 + 1 + 1,0,none⟩) n (n + 1))).alloc (.cells (zeros .u64 (xl + 1)) 23)).alloc (.cells #[.slice (some ⟨V1.heap.size,0,none⟩) (xl + 1) (xl + 1)] 24)).heap[w.heap.size + 1 + 1]? = some (.cells #[.int .i64 n] 3 (0,0)) := (heap_old _ _ _ (by simp; omega)).trans ((heap_old _ _ _ (by simp; omega)).trans ((heap_set (by omega) _).trans q3))
  replace q1 : Var (((V1.setCell ⟨w.heap.size + 1 + 1 + 1 + 1,0,none⟩ (.slice (some ⟨w.heap.size + 1 + 1 + 1,0,none⟩) n (n + 1))).alloc (.cells (zeros .u64 (xl + 1)) 23)).alloc (.cells #[.slice (some ⟨V1.heap.size,0,none⟩) (xl + 1) (xl + 1)] 24)) (w.heap.size) (.int .u64 0) (.slice none 0 0) := (((q1.other (by omega) _).alloc _).alloc _)
  replace q2 : Var (((V1.setCell ⟨w.heap.size + 1 + 1 + 1 + 1,0,none⟩ (.slice (some ⟨w.heap.size + 1 + 1 + 1,0,none⟩) n (n + 1))).alloc (.cells (zeros .u64 (xl + 1)) 23)).alloc (.cells #[.slice (some ⟨V1.heap.size,0,none⟩) (xl + 1) (xl + 1)] 24)) (w.heap.size + 1) (.int .u64 0) (.slice none 0 0) := (((q2.other (by omega) _).alloc _).alloc _)
  replace av : Arr (((V1.setCell ⟨w.heap.size + 1 + 1 + 1 + 1,0,none⟩ (.slice (some ⟨w.heap.size + 1 + 1 + 1,0,none⟩) n (n + 1))).alloc (.cells (zeros .u64 (xl + 1)) 23)).alloc (.cells #[.slice (some ⟨V1.heap.size,0,none⟩) (xl + 1) (xl + 1)] 24)) (w.heap.size + 1 + 1 + 1) 23 .u64 lv := (((av.other (by show w.heap.size + 1 + 1 + 1 ≠ w.heap.size + 1 + 1 + 1 + 1; omega) _).alloc _).alloc _)
  have qB2 : Below w.heap.size w (((V1.setCell ⟨w.heap.size + 1 + 1 + 1 + 1,0,none⟩ (.slice (some ⟨w.heap.size + 1 + 1 + 1,0,none⟩) n (n + 1))).alloc (.cells (zeros .u64 (xl + 1)) 23)).alloc (.cells #[.slice (some ⟨V1.heap.size,0,none⟩) (xl + 1) (xl + 1)] 24)) := ((qB.setCell (p := ⟨w.heap.size + 1 + 1 + 1 + 1,0,none⟩) (by show w.heap.size ≤ w.heap.size + 1 + 1 + 1 + 1; omega) _).alloc (by simp; omega) _).alloc (by simp; omega) _
  have qs2 : (((V1.setCell ⟨w.heap.size + 1 + 1 + 1 + 1,0,none⟩ (.slice (some ⟨w.heap.size + 1 + 1 + 1,0,none⟩) n (n + 1))).alloc (.cells (zeros .u64 (xl + 1)) 23)).alloc (.cells #[.slice (some ⟨V1.heap.size,0,none⟩) (xl + 1) (xl + 1)] 24)).heap.size = V1.heap.size + 1 + 1 := by simp
  clear b5 f5 b3 z1
  generalize (((V1.setCell ⟨w.heap.size + 1 + 1 + 1 + 1,0,none⟩ (.slice (some ⟨w.heap.size + 1 + 1 + 1,0,none⟩) n (n + 1))).alloc (.cells (zeros .u64 (xl + 1)) 23)).alloc (.cells #[.slice (some ⟨V1.heap.size,0,none⟩) (xl + 1) (xl + 1)] 24)) = V3 at q6 q7 q5 q3 q1 q2 av qB2 qs2 ⊢
  generalize V1.heap.size = ub at qs1 q6 q7 qs2 hub0 ⊢
  refine ⟨trivial,?_⟩
  gi_at_call 124
  refine (callsIn_wide.2 (shiftUp_any ub 23 0 (xl + 1) (xl + 1) xb xc xl S xt (List.replicate (xl + 1) 0) lx V3 q6 (hx.below qB2 kx) (by omega) (Nat.le_refl _) (by simp) hlx (by omega) (Words.replicate _) hwx hS)).mono ?_
  rintro e V4 ⟨rfl,lu,au,hlu,wu,_,hsu,gu⟩
  replace q1 := q1.kept gu (by omega)
  replace q2 := q2.kept gu (by omega)
  replace q3 := heap_kept q3 gu (by omega)
  replace q5 := heap_kept q5 gu (by omega)
  replace q7 := heap_kept q7 gu (by omega)
  replace av := av.kept gu (by omega)
  replace qB := below_kept qB2 gu (by omega)
  have qs4 : ub + 1 + 1 ≤ V4.heap.size := by have := gu.size; omega
  clear gu q6 qs2 qB2 qs1 hlz c0 bW
  have b3 : V4.cell? ⟨w.heap.size + 1 + 1,0,none⟩ = some (.int .i64 n) := by rw [cell_of_row V4 _ 0 _ _ (0,0) q3]; rfl
  have gx : (n : Int) ≤ (xl : Int) := by omega
  gi_wp2_with (refine ⟨trivial,?_⟩; gi_at_call 57; refine (back_in Fence.wide 4 trivial rfl _ _ _ _).mono ?_; rintro e w' ⟨rfl,rfl⟩)
  obtain ⟨hVy,hVtop,hYlo⟩ := norm_y hn hwy hly Htop.out hz hS hS1 hS2 (by rw [hlv]; simp) wv hsv
  have hVlt : seg lv 0 n < pw n := (seg_bd wv 0 n (by rw [hlv]; simp)).2
  have st0 : DivsAt (seg lx 0 xl * 2 ^ S) (seg lv 0 n) n (xl + 1) (xl - n + 1) 0 lu (List.replicate (xl - n + 1) 0) := divs_start hn hnx hwx hlx (by rw [hlu]; simp) wu hsu hVy hYlo
  have i0 : WordsI w ub V4.heap.size n xl lv (seg lx 0 xl * 2 ^ S) (seg lv 0 n) 0 (((V4.alloc (.cells (zeros .u64 (xl - n + 1)) 23)).alloc (.cells #[.slice (some ⟨V4.heap.size,0,none⟩) (xl - n + 1) (xl - n + 1)] 24)).alloc (.cells #[.slice (some ⟨V4.heap.size,0,none⟩) (xl - n + 1) (xl - n + 1)] 24)) := by
    refine ⟨⟨((av.alloc _).alloc _).alloc _,?_,?_,?_,?_,?_,((q1.alloc _).alloc _).alloc _,((q2.alloc _).alloc _).alloc _,((qB.alloc qB.size _).alloc (by have := qB.size; simp; omega) _).alloc (by have := qB.size; simp; omega) _⟩,lu,_,st0,((au.alloc _).alloc _).alloc _,((Arr.zeros _ _ _ _ _ rfl).alloc _).alloc _⟩
    · exact (heap_old _ _ _ (by simp; omega)).trans ((heap_old _ _ _ (by simp; omega)).trans ((heap_old _ _ _ (by omega)).trans q3))
    · exact (heap_old _ _ _ (by simp; omega)).trans ((heap_old _ _ _ (by simp; omega)).trans ((heap_old _ _ _ (by omega)).trans q5))
    · exact (heap_old _ _ _ (by simp; omega)).trans ((heap_old _ _ _ (by simp; omega)).trans ((heap_old _ _ _ (by omega)).trans q7))
    · exact (heap_old _ _ _ (by simp)).trans (heap_new _ _ _ (by simp))
    · exact heap_new _ _ _ (by simp)
  have hz5 : (((V4.alloc (.cells (zeros .u64 (xl - n + 1)) 23)).alloc (.cells #[.slice (some ⟨V4.heap.size,0,none⟩) (xl - n + 1) (xl - n + 1)] 24)).alloc (.cells #[.slice (some ⟨V4.heap.size,0,none⟩) (xl - n + 1) (xl - n + 1)] 24)).heap.size = V4.heap.size + 1 + 1 + 1 := by simp
  clear b3 q1 q2 q3 q5 q7 qB au
  generalize (((V4.alloc (.cells (zeros .u64 (xl - n + 1)) 23)).alloc (.cells #[.slice (some ⟨V4.heap.size,0,none⟩) (xl - n + 1) (xl - n + 1)] 24)).alloc (.cells #[.slice (some ⟨V4.heap.size,0,none⟩) (xl - n + 1) (xl - n + 1)] 24)) = W0 at i0 hz5 ⊢
  generalize V4.heap.size = qb at i0 hz5 qs4 ⊢
  refine wpIn_steps rfl (by decide) (gf := 87) (lb := #[.pointer (some ⟨qb + 1 + 1,0,none⟩)]) rfl trivial (enters_of Tryz.func87 (by kernel_rfl) rfl)
    (xl - n + 1) (fun k => #[.int .i64 ((xl - n + 1 - 1 - k : Nat) : Int),.int .u64 0]) (fun _ => rfl) (fun k W => WordsI w ub qb n xl lv (seg lx 0 xl * 2 ^ S) (seg lv 0 n) k W) (wordsI_own w ub qb n xl _ lv _ _ (by omega)) i0
    (fun l' J W hJ _ hY h0 => back_steps Fence.wide 4 trivial rfl (by decide) l' (qb + 1 + 1) (xl - n + 1) (xl - n + 1) (some ⟨qb,0,none⟩) (fun k => 0) (by omega) J (fun k W h => ?cells) hY W h0)
    (fun k => { tmps := #[.slice (some ⟨xb,0,none⟩) xl xc,.slice (some ⟨yb,0,none⟩) n yc,undef,undef,.pointer (some ⟨w.heap.size,0,none⟩),.pointer (some ⟨w.heap.size + 1,0,none⟩),.pointer (some ⟨w.heap.size + 1 + 1,0,none⟩),.int .i64 (S : Int),.pointer (some ⟨w.heap.size + 1 + 1 + 1 + 1,0,none⟩),.pointer (some ⟨ub + 1,0,none⟩),.pointer (some ⟨qb + 1,0,none⟩),.int .i64 ((xl - n + 1 - 1 - k : Nat) : Int),undef,undef,.slice (some ⟨yb,0,none⟩) n yc,.int .i64 (n : Int),.slice (some ⟨yb,0,none⟩) n yc,.int .i64 (n : Int),.int .i64 ((n : Int) - 1),.pointer (some ⟨yb,n - 1,none⟩),.int .u64 top,.int .i64 (S : Int),.int .i64 (n : Int),.int .i64 ((n : Int) + 1),.slice (some ⟨w.heap.size + 1 + 1 + 1,0,none⟩) (n + 1) (n + 1),.slice (some ⟨w.heap.size + 1 + 1 + 1,0,none⟩) (n + 1) (n + 1),.slice (some ⟨yb,0,none⟩) n yc,.int .i64 (S : Int),.tuple #[],.slice (some ⟨w.heap.size + 1 + 1 + 1,0,none⟩) (n + 1) (n + 1),.int .i64 (n : Int),.slice (some ⟨w.heap.size + 1 + 1 + 1,0,none⟩) n (n + 1),.slice (some ⟨xb,0,none⟩) xl xc,.int .i64 (xl : Int),.int .i64 ((xl : Int) + 1),.slice (some ⟨ub,0,none⟩) (xl + 1) (xl + 1),.slice (some ⟨ub,0,none⟩) (xl + 1) (xl + 1),.slice (some ⟨xb,0,none⟩) xl xc,.int .i64 (S : Int),.tuple #[],.slice (some ⟨xb,0,none⟩) xl xc,.int .i64 (xl : Int),.int .i64 (n : Int),.int .i64 ((xl : Int) - (n : Int)),.int .i64 ((xl : Int) - (n : Int) + 1),.slice (some ⟨qb,0,none⟩) (xl - n + 1) (xl - n + 1),.slice (some ⟨qb,0,none⟩) (xl - n + 1) (xl - n + 1),.func (.func 87) #[] #[.pointer (some ⟨qb + 1 + 1,0,none⟩)],.int .i64 ((xl - n + 1 - 1 - k : Nat) : Int),.int .u64 0,undef,undef,undef,undef,undef,undef,undef,undef,undef,undef,undef,undef,undef,undef,undef,undef,undef,undef,undef,undef,undef,undef,undef,undef,undef,undef,undef,undef,undef,undef,undef,undef,undef],defers := [] }) ?assign ?body ?done
  case cells =>
    obtain ⟨⟨_,_,_,_,_,a6,_⟩,lu,lq,hd,hu,hq⟩ := hJ k W h
    refine ⟨by rw [cell_of_row W _ 0 _ _ (0,0) a6]; rfl,fun hk => ⟨qb,rfl,?_⟩⟩
    have := hq.cell (xl - n + 1 - 1 - k) (by rw [hd.2.2.1]; omega)
    rw [hd.2.2.2.2.1 _ (by omega)] at this
    exact this
  case assign =>
    intro l' k W K hK
    generalize xl - n + 1 - 1 - k = j at hK ⊢
    gi_wp2
    exact hK
  case body =>
    rintro l' k W hk ⟨st,lu,lq,hd,hu,hq⟩
    obtain ⟨a1,a2,a3,a4,a5,a6,a7,a8,a9⟩ := st
    have st : Stat w ub qb n xl lv W := ⟨a1,a2,a3,a4,a5,a6,a7,a8,a9⟩
    obtain ⟨i,hi⟩ : ∃ i,xl - n + 1 - 1 - k = i := ⟨_,rfl⟩
    have hin : i + n ≤ xl := by omega
    have hin2 : i < xl - n + 1 := by omega
    have b2 : W.cell? ⟨w.heap.size + 1 + 1,0,none⟩ = some (.int .i64 n) := by rw [cell_of_row W _ 0 _ _ (0,0) a2]; rfl
    have b3 : W.cell? ⟨w.heap.size + 1 + 1 + 1 + 1,0,none⟩ = some (.slice (some ⟨w.heap.size + 1 + 1 + 1,0,none⟩) n (n + 1)) := by rw [cell_of_row W _ 0 _ _ (0,0) a3]; rfl
    have b4 : W.cell? ⟨ub + 1,0,none⟩ = some (.slice (some ⟨ub,0,none⟩) (xl + 1) (xl + 1)) := by rw [cell_of_row W _ 0 _ _ (0,0) a4]; rfl
    rw [hi]
    have gi0 : (0 : Int) ≤ (i : Int) := by omega
    have gi1 : (i : Int) ≤ (i : Int) + (n : Int) + 1 := by omega
    have gi2 : (i : Int) + (n : Int) + 1 ≤ (xl : Int) + 1 := by omega
    gi_wp2_with fail
    rw [show i + n + 1 - i = n + 1 by omega]
    have hlu1 := hd.1
    have hwu1 := hd.2.1
    refine ⟨trivial,?_⟩
    gi_at_call 125
    refine (CallsIn.inRound l' (callsIn_wide.2 (guess_any ub 23 i _ (w.heap.size + 1 + 1 + 1) 23 n (n + 1) lu lv W hu a1 hn (by omega) (by rw [hlv]; simp) (by omega) (by omega) hwu1 wv))).mono ?_
    rintro e W1 ⟨⟨d,rfl,hdig⟩,hB1⟩
    have wd := hdig.1
    have hUlt : seg lu i (n + 1) < 18446744073709551616 * seg lv 0 n := by
      have h7 := hd.2.2.2.2.2.2.1
      rw [show xl - n + 1 - k = i + 1 by omega] at h7
      rw [seg_cons (by omega)]
      have := hwu1.getD i
      unfold Word at this
      omega
    have hdv := digit_val (P := pw (n - 2)) (ul := seg lu i (n - 2)) (vl := seg lv 0 (n - 2)) hdig (hwu1.getD _) (hwu1.getD _) (hwu1.getD _) (wv.getD _) (wv.getD _) (pw_pos _) (seg_bd hwu1 _ _ (by omega)) (seg_bd wv _ _ (by rw [hlv]; simp; omega)) (part_words hn (by omega)) (two_words hn (by rw [hlv]; simp)) hVtop hUlt
    have st1 := st.below hB1
    have hu1 := hu.below hB1 hu.lt
    have hq1 := hq.below hB1 hq.lt
    have g01 := grownBy_below hB1 (Nat.le_refl _) (some ub)
    have b3 : W1.cell? ⟨w.heap.size + 1 + 1 + 1 + 1,0,none⟩ = some (.slice (some ⟨w.heap.size + 1 + 1 + 1,0,none⟩) n (n + 1)) := by rw [cell_of_row W1 _ 0 _ _ (0,0) st1.2.2.1]; rfl
    clear hdig hB1
    gi_wp2_with fail
    refine ⟨trivial,?_⟩
    gi_at_call 126
    refine (CallsIn.inRound l' (callsIn_wide.2 (subTimes_any ub 23 i _ (w.heap.size + 1 + 1 + 1) 23 n (n + 1) lu lv d W1 hu1 st1.1 (by omega) (by omega) (by rw [hlv]; simp) (by omega) hwu1 wv wd))).mono ?_
    rintro e W2 ⟨bw,rfl,hbw,lk,hk2,hkl,hkw,hko,hkv,gk⟩
    have st2 := st1.kept gk (by omega) (by omega) (by omega) (by omega)
    have g02 := grownBy_trans g01 gk
    have hq2 := hq1.kept gk (by omega)
    have hkb := seg_bd hkw i (n + 1) (by omega)
    have c4 : W2.cell? ⟨qb + 1,0,none⟩ = some (.slice (some ⟨qb,0,none⟩) (xl - n + 1) (xl - n + 1)) := by rw [cell_of_row W2 _ 0 _ _ (0,0) st2.2.2.2.2.1]; rfl
    have gi3 : (i : Int) < (xl : Int) - (n : Int) + 1 := by omega
    rcases hbw with rfl | rfl
    · have hcz := hq2.cell i (by rw [hd.2.2.1]; omega)
      have hfz := hq2.free i
      generalize lq.getD i 0 = z at hcz
      have fin := words_end (B := W0.heap.size) (i := i) (q := d) st hq g02 hk2 (by omega) (by omega) (by omega) (by
        rw [← hi]
        exact hd.step hk (by omega) (by omega) hkw (fun j hj => hko j (by omega)) (by rw [hi]; omega) (by rw [hi]; omega) wd hVlt)
      clear hkv hkb hdv hUlt
      gi_wp2_with fail
      exact fin
    · have hd1 : Word (d - 1) := by
        unfold Word at wd ⊢
        by_cases h : d = 0
        · subst h; rw [Int.zero_mul] at hkv; have := seg_bd hwu1 i (n + 1) (by omega); omega
        · omega
      have e5 : IntKind.u64.wrap (d - 1) = d - 1 := by unfold Word at hd1; rw [IntKind.wrap_u64]; omega
      have b6 : W2.cell? ⟨w.heap.size + 1 + 1 + 1 + 1,0,none⟩ = some (.slice (some ⟨w.heap.size + 1 + 1 + 1,0,none⟩) n (n + 1)) := by rw [cell_of_row W2 _ 0 _ _ (0,0) st2.2.2.1]; rfl
      gi_wp2_with fail
      refine ⟨trivial,?_⟩
      gi_at_call 82
      refine (CallsIn.inRound l' (callsIn_wide.2 (addTo_any ub i (n + 1) _ (w.heap.size + 1 + 1 + 1) 0 n (n + 1) 23 23 lk lv W2 hk2 st2.1 (by omega) (by omega) (by rw [hlv]; simp) (by omega) (by omega) hkw wv))).mono ?_
      rintro e W3 ⟨rfl,cc,hcc,lk2,hk3,hkl3,hkw3,hko3,hkv3,gk3⟩
      have st3 := st2.kept gk3 (by omega) (by omega) (by omega) (by omega)
      have g03 := grownBy_trans g02 gk3
      have hq3 := hq2.kept gk3 (by omega)
      have hkb3 := seg_bd hkw3 i (n + 1) (by omega)
      have edv : (d - 1) * seg lv 0 n = d * seg lv 0 n - seg lv 0 n := by rw [Int.sub_mul,Int.one_mul]
      have hc1 : cc = 1 := by
        rcases hcc with rfl | rfl
        · omega
        · rfl
      subst hc1
      have hcz := hq3.cell i (by rw [hd.2.2.1]; omega)
      have hfz := hq3.free i
      generalize lq.getD i 0 = z at hcz
      have c5 : W3.cell? ⟨qb + 1,0,none⟩ = some (.slice (some ⟨qb,0,none⟩) (xl - n + 1) (xl - n + 1)) := by rw [cell_of_row W3 _ 0 _ _ (0,0) st3.2.2.2.2.1]; rfl
      have fin := words_end (B := W0.heap.size) (i := i) (q := d - 1) st hq g03 hk3 (by omega) (by omega) (by omega) (by
        rw [← hi]
        exact hd.step hk (by omega) (by omega) hkw3 (fun j hj => (hko3 j (by omega)).trans (hko j (by omega))) (by rw [hi]; omega) (by rw [hi]; omega) hd1 hVlt)
      clear hkv hkb hdv hUlt hkv3 hkb3 edv
      gi_wp2_with fail
      exact fin
  case done =>
    rintro D W hD ⟨⟨a1,a2,a3,a4,a5,a6,a7,a8,a9⟩,lu,lq,hd,hu,hq⟩ hK
    have hlt := (Array.getElem?_eq_some_iff.1 hK).1
    rw [hVy] at hd
    obtain ⟨hdq,hdr⟩ := divs_end hd (by omega)
    have b2 : W.cell? ⟨w.heap.size + 1 + 1,0,none⟩ = some (.int .i64 n) := by rw [cell_of_row W _ 0 _ _ (0,0) a2]; rfl
    have b4 : W.cell? ⟨ub + 1,0,none⟩ = some (.slice (some ⟨ub,0,none⟩) (xl + 1) (xl + 1)) := by rw [cell_of_row W _ 0 _ _ (0,0) a4]; rfl
    have f4 : W.frozen? ⟨ub + 1,0,none⟩ = false := frozen_of_row W _ 0 _ _ a4
    have gn2 : (n : Int) ≤ (xl : Int) + 1 := by omega
    gi_wp2_with fail
    have y4 : (W.setCell ⟨ub + 1,0,none⟩ (.slice (some ⟨ub,0,none⟩) n (xl + 1))).heap[ub + 1]? = some (.cells #[.slice (some ⟨ub,0,none⟩) n (xl + 1)] 24 (0,0)) := heap_setCell_same W _ 0 _ _ _ a4
    have y5 := (heap_set (W := W) (s := qb + 1) (c := ub + 1) (i := 0) (by omega) (.slice (some ⟨ub,0,none⟩) n (xl + 1))).trans a5
    have y7 := a7.other (d := ub + 1) (i := 0) (by omega) (.slice (some ⟨ub,0,none⟩) n (xl + 1))
    have y8 := a8.other (d := ub + 1) (i := 0) (by omega) (.slice (some ⟨ub,0,none⟩) n (xl + 1))
    have y9 : Below w.heap.size w (W.setCell ⟨ub + 1,0,none⟩ (.slice (some ⟨ub,0,none⟩) n (xl + 1))) := a9.setCell (p := ⟨ub + 1,0,none⟩) (by show w.heap.size ≤ ub + 1; omega) _
    have yK := (heap_set (W := W) (s := D) (c := ub + 1) (i := 0) (by omega) (.slice (some ⟨ub,0,none⟩) n (xl + 1))).trans hK
    have yu : Arr (W.setCell ⟨ub + 1,0,none⟩ (.slice (some ⟨ub,0,none⟩) n (xl + 1))) ub 23 .u64 lu := hu.other (by show ub ≠ ub + 1; omega) _
    have yq : Arr (W.setCell ⟨ub + 1,0,none⟩ (.slice (some ⟨ub,0,none⟩) n (xl + 1))) qb 23 .u64 lq := hq.other (by show qb ≠ ub + 1; omega) _
    generalize W.setCell ⟨ub + 1,0,none⟩ (.slice (some ⟨ub,0,none⟩) n (xl + 1)) = W1 at y4 y5 y7 y8 y9 yK yu yq ⊢
    clear b2 b4 f4 a1 a2 a3 a4 a5 a6 a7 a8 a9
    refine ⟨trivial,?_⟩
    gi_at_call 127
    refine (callsIn_wide.2 (shiftDown_any ub 23 n (xl + 1) S lu W1 yu (by rw [hd.1]; omega) (by omega) hd.2.1 hS)).mono ?_
    rintro e W2 ⟨rfl,lr,ar,hrl,hrw,_,hrv,gr⟩
    replace y4 := heap_kept y4 gr (by omega)
    replace y5 := heap_kept y5 gr (by omega)
    replace y7 := y7.kept gr (by omega)
    replace y8 := y8.kept gr (by omega)
    replace y9 := below_kept y9 gr (by omega)
    replace yK := heap_kept yK gr (by omega)
    replace yq := yq.kept gr (by omega)
    rw [← hdr] at hrv
    have Hrl := Lib.hid hrl
    clear gr yu hrl
    have zz7 := y7.lt
    have zz8 := y8.lt
    have zz4 := (Array.getElem?_eq_some_iff.1 y4).1
    have zz5 := (Array.getElem?_eq_some_iff.1 y5).1
    have hltK := (Array.getElem?_eq_some_iff.1 yK).1
    have mq := fun W' (g : Below W2.heap.size W2 W') => made_any qb 23 (xl - n + 1) (xl - n + 1) lq W' (yq.below g yq.lt) (Nat.le_refl _) (by rw [hd.2.2.1]; exact Nat.le_refl _) (by omega) hd.2.2.2.1
    have mr := fun W' (g : Below W2.heap.size W2 W') => made_any ub 23 n (xl + 1) lr W' (ar.below g ar.lt) (by omega) (by rw [Hrl.out,hd.1]; exact Nat.le_refl _) (by omega) hrw
    rw [← seg_all,← hdq] at mq
    rw [← seg_all,hrv] at mr
    have c4 := fun (W' : World) (g : W'.heap[ub + 1]? = some (.cells #[.slice (some ⟨ub,0,none⟩) n (xl + 1)] 24 (0,0))) => (show W'.cell? ⟨ub + 1,0,none⟩ = some (.slice (some ⟨ub,0,none⟩) n (xl + 1)) by rw [cell_of_row W' _ 0 _ _ (0,0) g]; rfl)
    have c5 := fun (W' : World) (g : W'.heap[qb + 1]? = some (.cells #[.slice (some ⟨qb,0,none⟩) (xl - n + 1) (xl - n + 1)] 24 (0,0))) => (show W'.cell? ⟨qb + 1,0,none⟩ = some (.slice (some ⟨qb,0,none⟩) (xl - n + 1) (xl - n + 1)) by rw [cell_of_row W' _ 0 _ _ (0,0) g]; rfl)
    have n40 : ub + 1 ≠ w.heap.size := by omega
    have n41 : ub + 1 ≠ w.heap.size + 1 := by omega
    have n50 : qb + 1 ≠ w.heap.size := by omega
    have n51 : qb + 1 ≠ w.heap.size + 1 := by omega
    have b4 := c4 W2 y4
    have b5 := c5 W2 y5
    have acc := Below.refl W2.heap.size W2
    have Mq := Lib.hid mq
    have Mr := Lib.hid mr
    clear mq mr hdq hdr hrv
    gi_wp2
    refine wpIn_wide.2 ?_
    go_region_held3 (fun w' => w'.cell? ⟨ub + 1,0,none⟩ = some (.slice (some ⟨ub,0,none⟩) n (xl + 1)) ∧ w'.cell? ⟨qb + 1,0,none⟩ = some (.slice (some ⟨qb,0,none⟩) (xl - n + 1) (xl - n + 1)))
      (first | with_reducible exact ⟨c4 _ ((acc.block _ zz4).trans y4),c5 _ ((acc.block _ zz5).trans y5)⟩ | with_reducible exact ⟨c4 _ ((acc.drew.block _ zz4).trans y4),c5 _ ((acc.drew.block _ zz5).trans y5)⟩ | with_reducible exact ⟨c4 _ ((heap_two n40 _ _).trans ((acc.block _ zz4).trans y4)),c5 _ ((heap_two n50 _ _).trans ((acc.block _ zz5).trans y5))⟩ | with_reducible exact ⟨c4 _ ((heap_two n41 _ _).trans ((heap_two n40 _ _).trans ((acc.block _ zz4).trans y4))),c5 _ ((heap_two n51 _ _).trans ((heap_two n50 _ _).trans ((acc.block _ zz5).trans y5)))⟩)
      (first
        | (go_at_call 79; (first | (have q := Mq.out _ acc; (with_reducible refine q.mono ?_); clear q) | (have q := Mq.out _ acc.drew; (with_reducible refine q.mono ?_); clear q)); rintro e wa ⟨v,rfl,hv,hva⟩; obtain ⟨va,vp,vl,vc,rfl⟩ := hv.shape; (first | replace hva : Below W2.heap.size W2 wa := hva | replace hva := below_undrew (w := W2) hva); replace acc := below_acc acc acc.size hva; clear hva; have b4 := c4 _ ((acc.block _ zz4).trans y4); have b5 := c5 _ ((acc.block _ zz5).trans y5))
        | (go_at_call 79; (first | (have q := Mr.out _ acc; (with_reducible refine q.mono ?_); clear q) | (have q := Mr.out _ acc.drew; (with_reducible refine q.mono ?_); clear q)); rintro e wb ⟨v,rfl,hu2,hvb⟩; obtain ⟨ua,up,ul,uc,rfl⟩ := hu2.shape; (first | replace hvb : Below wa.heap.size wa wb := hvb | replace hvb := below_undrew (w := wa) hvb); replace acc := below_acc acc acc.size hvb; replace hv := hv.below hvb; clear hvb; have u2 := y7.below acc zz7; have u3 := y8.below acc zz8; have c20 := u2.c0; have c21 := u2.c1; have f20 := u2.free 0; have f21 := u2.free 1; have c30 := u3.c0; have c31 := u3.c1; have f30 := u3.free 0; have f31 := u3.free 1))
    all_goals
      gi_wp2
      have hK2 : ((((wb.setCell ⟨w.heap.size,0,none⟩ (.int .u64 va)).setCell ⟨w.heap.size,1,none⟩ (.slice vp vl vc)).setCell ⟨w.heap.size + 1,0,none⟩ (.int .u64 ua)).setCell ⟨w.heap.size + 1,1,none⟩ (.slice up ul uc)).heap[D]? = some (.deferred (some [])) :=
        (heap_two (by omega) _ _).trans ((heap_two (by omega) _ _).trans ((acc.block D hltK).trans yK))
      have r2 := ((u2.set (.int .u64 va) vp vl vc).other (d := w.heap.size + 1) (i := 0) (by omega) (.int .u64 ua)).other (d := w.heap.size + 1) (i := 1) (by omega) (.slice up ul uc)
      have r3 := ((u3.other (d := w.heap.size) (i := 0) (by omega) (.int .u64 va)).other (d := w.heap.size) (i := 1) (by omega) (.slice vp vl vc)).set (.int .u64 ua) up ul uc
      have o3 := (u3.other (d := w.heap.size) (i := 0) (by omega) (.int .u64 va)).other (d := w.heap.size) (i := 1) (by omega) (.slice vp vl vc)
      have hv2 := (hv.two u2 (.int .u64 va) (.slice vp vl vc)).two o3 (.int .u64 ua) (.slice up ul uc)
      have hu3 := (hu2.two u2 (.int .u64 va) (.slice vp vl vc)).two o3 (.int .u64 ua) (.slice up ul uc)
      have hbw : Below w.heap.size w ((((wb.setCell ⟨w.heap.size,0,none⟩ (.int .u64 va)).setCell ⟨w.heap.size,1,none⟩ (.slice vp vl vc)).setCell ⟨w.heap.size + 1,0,none⟩ (.int .u64 ua)).setCell ⟨w.heap.size + 1,1,none⟩ (.slice up ul uc)) :=
        below_two (below_two (y9.trans (acc.mono y9.size)) (by omega) _ _) (by omega) _ _
      clear acc
      generalize (((wb.setCell ⟨w.heap.size,0,none⟩ (.int .u64 va)).setCell ⟨w.heap.size,1,none⟩ (.slice vp vl vc)).setCell ⟨w.heap.size + 1,0,none⟩ (.int .u64 ua)).setCell ⟨w.heap.size + 1,1,none⟩ (.slice up ul uc) = Z at hK2 r2 r3 hv2 hu3 hbw ⊢
      refine ⟨by simp,.inl ⟨_,_,rfl,run_takeDeferred hK2,?_⟩⟩
      have hp := grownBy_putObj' Z D (.deferred none)
      have hpr : ∀ r,some D = some r → ∃ o : Obj,Z.heap[r]? = some o ∧ o.isCells = false := fun r e => by cases e; exact ⟨_,hK2,rfl⟩
      have l2 := r2.grown hp (by simp; omega)
      have l3 := r3.grown hp (by simp; omega)
      rw [← seg_all lx xl,← seg_all ly n]
      refine ⟨.tuple #[.agg #[.int .u64 va,.slice vp vl vc],.agg #[.int .u64 ua,.slice up ul uc]],?_,_,_,rfl,hv2.putObj hp hpr,hu3.putObj hp hpr,hbw.grown hp hbw.size (fun k e => by cases e; omega)⟩
      simp [results,Tryz.results105,asAddr,run_loadVar_nat l2,run_loadVar_nat l3]
end Go.Proofs.YtgccgacpifebbaaGreatDoor
