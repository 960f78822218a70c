/- WholeKnown: the single calls that it wants,of closed numbers. WholeKnown,walked. (gen_wknw.py) -/
import Derived.Test.YtogildikglomkaaGreatDoorParse
import Derived.Test.YtogildikglomkaaGreatDoorWPowK
import Derived.Test.YtogildikglomkaaGreatDoorWhoY
import Derived.Test.YtogildikglomkaaGreatDoorWhoLaw
import Derived.Test.YtogildikglomkaaGreatDoorRGK
import Derived.Test.YtogildikglomkaaGreatDoorBez0
namespace Go.Proofs.YtogildikglomkaaGreatDoor
open Go.RowKit
set_option linter.unusedVariables false

theorem cut_m0 (w : World) : Calls Tryz.prog 43 #[.string ⟨#[45,48]⟩,.string ⟨#[45]⟩] w fun e w' => e = .returned (.tuple #[.string ⟨#[48]⟩,.bool true]) ∧ w' = w :=
  Tryz.strings_CutPrefix ⟨#[45,48]⟩ ⟨#[45]⟩ w
theorem cut_m12 (w : World) : Calls Tryz.prog 43 #[.string ⟨#[45,49,50]⟩,.string ⟨#[45]⟩] w fun e w' => e = .returned (.tuple #[.string ⟨#[49,50]⟩,.bool true]) ∧ w' = w :=
  Tryz.strings_CutPrefix ⟨#[45,49,50]⟩ ⟨#[45]⟩ w
theorem parse_lit (s : ByteArray) (n : Int) (hs : s.size ≤ 9223372036854775807) (hd : IsDec s) (hn : decTo s s.size = n) (h64 : n < 18446744073709551616) (w : World) : Calls Tryz.prog 44 #[.string s] w fun e w' => e = .returned (.tuple #[.agg #[.int .u64 n,.slice none 0 0],.bool true]) ∧ Below w.heap.size w w' := by
  refine (parse_any s w hs).mono ?_
  rintro e w' (⟨_,v,rfl,hv,hb⟩ | ⟨h,_⟩)
  · rw [hn] at hv
    rw [hv.one h64]
    exact ⟨rfl,hb⟩
  · exact absurd hd h
theorem dec_0 : IsDec ⟨#[48]⟩ := ⟨by decide,by decide,fun k hk => by
  obtain rfl : k = 0 := by have : k < 1 := hk; omega
  exact ⟨by decide,by decide⟩,.inl rfl⟩
theorem dec_12 : IsDec ⟨#[49,50]⟩ := ⟨by decide,by decide,fun k hk => by
  have hk : k < 2 := hk
  obtain rfl | rfl : k = 0 ∨ k = 1 := by omega
  · exact ⟨by decide,by decide⟩
  · exact ⟨by decide,by decide⟩,.inr (by decide)⟩
theorem bodyPost_ok3 {fn : Func} {p s : Tmp} (h : fn.results = #[.cell p 27,.tmp s]) {w' : World} {a : Act} {x y z : Value} {c : Nat} {ok : Bool} {R : Ending → World → Prop} (hd : a.defers = []) (hp : a.tmps.getD p undef = .pointer (some ⟨c,0,none⟩)) (hs : a.tmps.getD s undef = .bool ok) (hc : Row3 w' c x y z)
    (hR : R (.returned (.tuple #[.agg #[x,y,z],.bool ok])) w') : bodyPost Tryz.prog fn R .ret a w' := by
  refine bodyPost_ret (v := .tuple #[.agg #[x,y,z],.bool ok]) ?_ hd hR
  have hp' : a.tmps[p]?.getD undef = .pointer (some ⟨c,0,none⟩) := by simpa using hp
  have hs' : a.tmps[s]?.getD undef = .bool ok := by simpa using hs
  simp [results,h,hp',hs',asAddr,run_loadVar_int hc]
set_option maxRecDepth 100000 in
set_option maxHeartbeats 2000000 in
theorem iparse_m0 (w : World) : Calls Tryz.prog 9 #[.string ⟨#[45,48]⟩] w fun e w' => e = .returned (.tuple #[.agg #[.bool false,.int .u64 0,.slice none 0 0],.bool false]) ∧ Below w.heap.size w w' := by
  obtain ⟨W0,hW0⟩ : ∃ W0,w.alloc (.cells #[.bool false,.int .u64 0,.slice none 0 0] 27) = W0 := ⟨_,rfl⟩
  have b0 : Below w.heap.size w W0 := by subst hW0; go_grown
  have r := Row3.new w (.bool false) (.int .u64 0) (.slice none 0 0) _ rfl
  rw [hW0] at r
  go_enter Tryz.func9,Tryz.ntmps9
  go_wp2_with fail
  refine (cut_m0 W0).mono ?_
  rintro e W1 ⟨rfl,rfl⟩
  go_wp2_with fail
  refine (parse_lit ⟨#[48]⟩ 0 (by decide) dec_0 (by decide) (by decide) W1).mono ?_
  rintro e W2 ⟨rfl,b2⟩
  replace r := r.below b2 r.lt
  replace b2 := below_acc b0 b0.size b2
  clear b0 hW0
  obtain ⟨W3,hW3⟩ : ∃ W3,W2.alloc (.cells #[.int .u64 0,.slice none 0 0] 25) = W3 := ⟨_,rfl⟩
  have b3 : Below W2.heap.size W2 W3 := by subst hW3; go_grown
  have v := Var.new W2 _ (.int .u64 0) none 0 0 rfl
  rw [hW3] at v
  have tr := Touch.nat (x' := .int .u64 0) (q' := none) (m' := 0) (c' := 0) v.1
  replace b3 : Below W2.heap.size W2 ((W3.setCell ⟨W2.heap.size,0,none⟩ (.int .u64 0)).setCell ⟨W2.heap.size,1,none⟩ (.slice none 0 0)) := (b3.setCell (p := ⟨W2.heap.size,0,none⟩) (Nat.le_refl _) _).setCell (p := ⟨W2.heap.size,1,none⟩) (Nat.le_refl _) _
  have e0 := v.c0
  have e1 := v.c1
  have e2 := v.free 0
  have e3 := v.free 1
  obtain ⟨W4,hW4⟩ : ∃ W4,(W3.setCell ⟨W2.heap.size,0,none⟩ (.int .u64 0)).setCell ⟨W2.heap.size,1,none⟩ (.slice none 0 0) = W4 := ⟨_,rfl⟩
  rw [hW4] at tr b3
  have v4 : Var W4 W2.heap.size (.int .u64 0) (.slice none 0 0) := ⟨tr.2,_,_,_,rfl⟩
  replace r := r.below b3 r.lt
  replace b3 := below_acc b2 b2.size b3
  have c0 := v4.c0
  have c1 := v4.c1
  clear tr v
  go_wp2_with fail
  refine (bits_word 0 ⟨by decide,by decide⟩ W4).mono ?_
  rintro e W5 ⟨rfl,b4⟩
  have v5 := v4.below b4 v4.lt
  replace r := r.below b4 r.lt
  replace b4 := below_acc b3 b3.size b4
  clear b2 b3 hW3 hW4 c0 c1 e0 e1 e2 e3 v4
  have c0 := v5.c0
  have c1 := v5.c1
  have d0 := r.cell0
  have d1 := r.cell1
  have d2 := r.cell2
  have f0 := r.free 0
  have f1 := r.free 1
  have f2 := r.free 2
  have r' := r.set3 (.bool false) (.int .u64 0) (.slice none 0 0)
  have hB := ((b4.setCell (p := ⟨w.heap.size,0,none⟩) (Nat.le_refl _) (.bool false)).setCell (p := ⟨w.heap.size,1,none⟩) (Nat.le_refl _) (.int .u64 0)).setCell (p := ⟨w.heap.size,2,none⟩) (Nat.le_refl _) (.slice none 0 0)
  have hz : Lib.bitLen (0 : Int).toNat = 0 := by decide +kernel
  go_wp2_with fail
  exact bodyPost_ok3 Tryz.results9 rfl rfl rfl r' ⟨rfl,hB⟩
set_option maxRecDepth 100000 in
set_option maxHeartbeats 2000000 in
theorem iparse_m12 (w : World) : Calls Tryz.prog 9 #[.string ⟨#[45,49,50]⟩] w fun e w' => e = .returned (.tuple #[.agg #[.bool true,.int .u64 12,.slice none 0 0],.bool true]) ∧ Below w.heap.size w w' := by
  obtain ⟨W0,hW0⟩ : ∃ W0,w.alloc (.cells #[.bool false,.int .u64 0,.slice none 0 0] 27) = W0 := ⟨_,rfl⟩
  have b0 : Below w.heap.size w W0 := by subst hW0; go_grown
  have r := Row3.new w (.bool false) (.int .u64 0) (.slice none 0 0) _ rfl
  rw [hW0] at r
  go_enter Tryz.func9,Tryz.ntmps9
  go_wp2_with fail
  refine (cut_m12 W0).mono ?_
  rintro e W1 ⟨rfl,rfl⟩
  go_wp2_with fail
  refine (parse_lit ⟨#[49,50]⟩ 12 (by decide) dec_12 (by decide) (by decide) W1).mono ?_
  rintro e W2 ⟨rfl,b2⟩
  replace r := r.below b2 r.lt
  replace b2 := below_acc b0 b0.size b2
  clear b0 hW0
  obtain ⟨W3,hW3⟩ : ∃ W3,W2.alloc (.cells #[.int .u64 0,.slice none 0 0] 25) = W3 := ⟨_,rfl⟩
  have b3 : Below W2.heap.size W2 W3 := by subst hW3; go_grown
  have v := Var.new W2 _ (.int .u64 0) none 0 0 rfl
  rw [hW3] at v
  have tr := Touch.nat (x' := .int .u64 12) (q' := none) (m' := 0) (c' := 0) v.1
  replace b3 : Below W2.heap.size W2 ((W3.setCell ⟨W2.heap.size,0,none⟩ (.int .u64 12)).setCell ⟨W2.heap.size,1,none⟩ (.slice none 0 0)) := (b3.setCell (p := ⟨W2.heap.size,0,none⟩) (Nat.le_refl _) _).setCell (p := ⟨W2.heap.size,1,none⟩) (Nat.le_refl _) _
  have e0 := v.c0
  have e1 := v.c1
  have e2 := v.free 0
  have e3 := v.free 1
  obtain ⟨W4,hW4⟩ : ∃ W4,(W3.setCell ⟨W2.heap.size,0,none⟩ (.int .u64 12)).setCell ⟨W2.heap.size,1,none⟩ (.slice none 0 0) = W4 := ⟨_,rfl⟩
  rw [hW4] at tr b3
  have v4 : Var W4 W2.heap.size (.int .u64 12) (.slice none 0 0) := ⟨tr.2,_,_,_,rfl⟩
  replace r := r.below b3 r.lt
  replace b3 := below_acc b2 b2.size b3
  have c0 := v4.c0
  have c1 := v4.c1
  clear tr v
  go_wp2_with fail
  refine (bits_word 12 ⟨by decide,by decide⟩ W4).mono ?_
  rintro e W5 ⟨rfl,b4⟩
  have v5 := v4.below b4 v4.lt
  replace r := r.below b4 r.lt
  replace b4 := below_acc b3 b3.size b4
  clear b2 b3 hW3 hW4 c0 c1 e0 e1 e2 e3 v4
  have c0 := v5.c0
  have c1 := v5.c1
  have d0 := r.cell0
  have d1 := r.cell1
  have d2 := r.cell2
  have f0 := r.free 0
  have f1 := r.free 1
  have f2 := r.free 2
  have r' := r.set3 (.bool true) (.int .u64 12) (.slice none 0 0)
  have hB := ((b4.setCell (p := ⟨w.heap.size,0,none⟩) (Nat.le_refl _) (.bool true)).setCell (p := ⟨w.heap.size,1,none⟩) (Nat.le_refl _) (.int .u64 12)).setCell (p := ⟨w.heap.size,2,none⟩) (Nat.le_refl _) (.slice none 0 0)
  have hz : Lib.bitLen (12 : Int).toNat = 4 := by decide +kernel
  go_wp2_with fail
  exact bodyPost_ok3 Tryz.results9 rfl rfl rfl r' ⟨rfl,hB⟩
theorem text_5 (w : World) : Calls Tryz.prog 38 #[.agg #[.int .u64 5,.slice none 0 0]] w fun e w' => e = .returned (.string ⟨#[53]⟩) ∧ Below w.heap.size w w' := by
  have h : Lib.decDigits 5 = [53] := by decide +kernel
  have := text_small 5 (by decide) w
  rw [h] at this
  exact this
theorem text_8 (w : World) : Calls Tryz.prog 38 #[.agg #[.int .u64 8,.slice none 0 0]] w fun e w' => e = .returned (.string ⟨#[56]⟩) ∧ Below w.heap.size w w' := by
  have h : Lib.decDigits 8 = [56] := by decide +kernel
  have := text_small 8 (by decide) w
  rw [h] at this
  exact this
theorem words_00 (w : World) : Calls Tryz.prog 52 #[.int .u64 0,.int .u64 0] w fun e w' => e = .returned (.int .u64 0) ∧ Below w.heap.size w w' := by
  go_enter Tryz.func52,Tryz.ntmps52
  go_wp2_with fail
  go_ret
  exact ⟨rfl,Below.refl _ _⟩
set_option maxRecDepth 100000 in
theorem small_min (w : World) : Calls Tryz.prog 10 #[.agg #[.bool true,.int .u64 9223372036854775808,.slice none 0 0]] w fun e w' => e = .returned (.tuple #[.int .i64 (-9223372036854775808),.bool true]) ∧ Below w.heap.size w w' := by
  obtain ⟨O,hO⟩ : ∃ O,w.alloc (.cells #[.bool true,.int .u64 9223372036854775808,.slice none 0 0] 27) = O := ⟨_,rfl⟩
  have b0 : Below w.heap.size w O := by subst hO; go_grown
  have r : Row3 O w.heap.size (.bool true) (.int .u64 9223372036854775808) (.slice none 0 0) := by subst hO; exact Row3.new w _ _ _ _ rfl
  have c1 := r.cell1
  have c2 := r.cell2
  go_enter Tryz.func10,Tryz.ntmps10
  go_wp2_with fail
  refine (small_word 9223372036854775808 O).mono ?_
  rintro e W1 ⟨rfl,b1⟩
  have d0 := (r.below b1 r.lt).cell0
  have hw : wrap64 (IntKind.u64.wrap (-9223372036854775808)) = -9223372036854775808 := by decide +kernel
  clear c1 c2 hO
  go_wp2_with fail
  go_ret2
  exact ⟨by show Ending.returned (.tuple #[.int .i64 (wrap64 (IntKind.u64.wrap (-9223372036854775808))),.bool true]) = _; rw [hw],below_acc b0 b0.size b1⟩
set_option maxRecDepth 100000 in
theorem small_big (w : World) : Calls Tryz.prog 10 #[.agg #[.bool false,.int .u64 9223372036854775808,.slice none 0 0]] w fun e w' => e = .returned (.tuple #[.int .i64 0,.bool false]) ∧ Below w.heap.size w w' := by
  obtain ⟨O,hO⟩ : ∃ O,w.alloc (.cells #[.bool false,.int .u64 9223372036854775808,.slice none 0 0] 27) = O := ⟨_,rfl⟩
  have b0 : Below w.heap.size w O := by subst hO; go_grown
  have r : Row3 O w.heap.size (.bool false) (.int .u64 9223372036854775808) (.slice none 0 0) := by subst hO; exact Row3.new w _ _ _ _ rfl
  have c1 := r.cell1
  have c2 := r.cell2
  go_enter Tryz.func10,Tryz.ntmps10
  go_wp2_with fail
  refine (small_word 9223372036854775808 O).mono ?_
  rintro e W1 ⟨rfl,b1⟩
  have d0 := (r.below b1 r.lt).cell0
  clear c1 c2 hO
  go_wp2_with fail
  go_ret2
  exact ⟨rfl,below_acc b0 b0.size b1⟩
set_option maxRecDepth 100000 in
set_option maxHeartbeats 1000000 in
theorem gcd_00 (w : World) : Calls Tryz.prog 17 #[.agg #[.bool false,.int .u64 0,.slice none 0 0],.agg #[.bool false,.int .u64 0,.slice none 0 0]] w fun e w' => e = .returned (.agg #[.int .u64 0,.slice none 0 0]) ∧ Below w.heap.size w w' := by
  obtain ⟨O,hO⟩ : ∃ O,((w.alloc (.cells #[.bool false,.int .u64 0,.slice none 0 0] 27)).alloc (.cells #[.bool false,.int .u64 0,.slice none 0 0] 27)).alloc (.cells #[.int .u64 0,.slice none 0 0] 25) = O := ⟨_,rfl⟩
  have b0 : Below w.heap.size w O := by subst hO; go_grown
  have ra : Row3 O w.heap.size (.bool false) (.int .u64 0) (.slice none 0 0) := by subst hO; exact ((Row3.new w _ _ _ _ rfl).alloc _).alloc _
  have rb : Row3 O (w.heap.size + 1) (.bool false) (.int .u64 0) (.slice none 0 0) := by subst hO; exact (Row3.new _ _ _ _ _ (by simp)).alloc _
  have v : Var O (w.heap.size + 1 + 1) (.int .u64 0) (.slice none 0 0) := by subst hO; exact Var.new _ _ _ _ _ _ (by simp)
  have c1 := ra.cell1
  have c2 := ra.cell2
  go_enter Tryz.func17,Tryz.ntmps17
  go_wp2_with fail
  clear c1 c2
  refine (small_word 0 O).mono ?_
  rintro e W1 ⟨rfl,b1⟩
  replace rb := rb.below b1 rb.lt
  replace v := v.below b1 v.lt
  replace b1 := below_acc b0 b0.size b1
  clear b0 hO ra
  have c1 := rb.cell1
  have c2 := rb.cell2
  go_wp2_with fail
  refine (small_word 0 W1).mono ?_
  rintro e W2 ⟨rfl,b2⟩
  replace v := v.below b2 v.lt
  replace b2 := below_acc b1 b1.size b2
  clear b1 rb c1 c2
  go_wp2_with fail
  refine (words_00 W2).mono ?_
  rintro e W3 ⟨rfl,b3⟩
  replace v := v.below b3 v.lt
  replace b3 := below_acc b2 b2.size b3
  clear b2
  go_wp2_with fail
  refine (of_any 0 W3).mono ?_
  rintro e W4 ⟨rfl,b4⟩
  replace v := v.below b4 v.lt
  replace b4 := below_acc b3 b3.size b4
  clear b3
  have c0 := v.c0
  have c1 := v.c1
  have f0 := v.free 0
  have f1 := v.free 1
  have r := v.set (.int .u64 0) none 0 0
  have hB := (b4.setCell (p := ⟨w.heap.size + 1 + 1,0,none⟩) (by show w.heap.size ≤ w.heap.size + 1 + 1; omega) (.int .u64 0)).setCell (p := ⟨w.heap.size + 1 + 1,1,none⟩) (by show w.heap.size ≤ w.heap.size + 1 + 1; omega) (.slice none 0 0)
  go_wp2_with fail
  exact bodyPost_ret (v := .agg #[.int .u64 0,.slice none 0 0]) (results_cell_row Tryz.results17 _ _ (w.heap.size + 1 + 1) _ _ (0,0) _ rfl r.1 Tryz.underlying25 rfl (by kernel_rfl)) rfl ⟨rfl,hB⟩
end Go.Proofs.YtogildikglomkaaGreatDoor

namespace Go.Proofs.YtogildikglomkaaGreatDoor
open Go.RowKit
set_option linter.unusedVariables false

theorem IsInt.lits {w : World} {v : Value} {z : Int} (h : IsInt w v z) (b : Bool) (x : Int) (hb : b = decide (z < 0) ∧ x = absI z ∧ absI z < 18446744073709551616) : v = .agg #[.bool b,.int .u64 x,.slice none 0 0] := by
  rw [h.lit hb.2.2,← hb.1,← hb.2.1]
theorem bez_50 (w : World) : Calls Tryz.prog 13 #[.agg #[.bool true,.int .u64 5,.slice none 0 0],.agg #[.bool false,.int .u64 0,.slice none 0 0]] w fun e w' => e = .returned (.tuple #[.agg #[.bool false,.int .u64 5,.slice none 0 0],.agg #[.bool true,.int .u64 1,.slice none 0 0],.agg #[.bool false,.int .u64 0,.slice none 0 0]]) ∧ Below w.heap.size w w' := by
  refine (bezout_0 _ (-5) w (lit_int w true 5 (-5) (by decide) (by decide) (by decide))).mono ?_
  rintro e w' ⟨v1,v2,v3,rfl,h1,h2,h3,hb⟩
  rw [h1.lits false 5 ⟨by decide,by decide,by decide⟩,h2.lits true 1 ⟨by decide,by decide,by decide⟩,h3.lits false 0 ⟨by decide,by decide,by decide⟩]
  exact ⟨rfl,hb⟩
theorem neg_min (w : World) : Calls Tryz.prog 11 #[.agg #[.bool true,.int .u64 9223372036854775808,.slice none 0 0]] w fun e w' => e = .returned (.agg #[.bool false,.int .u64 9223372036854775808,.slice none 0 0]) ∧ Below w.heap.size w w' := by
  refine (neg_int _ (-9223372036854775808) w (lit_int w true _ _ (by decide) (by decide) (by decide))).mono ?_
  rintro e w' ⟨v,rfl,h,hb⟩
  rw [h.lits false 9223372036854775808 ⟨by decide,by decide,by decide⟩]
  exact ⟨rfl,hb⟩
theorem pow_m2 (w : World) : Calls Tryz.prog 12 #[.agg #[.bool true,.int .u64 2,.slice none 0 0],.int .i64 3] w fun e w' => e = .returned (.tuple #[.agg #[.bool true,.int .u64 8,.slice none 0 0],.bool true]) ∧ Below w.heap.size w w' := by
  refine (ipow_int 3 (by decide) _ (-2) w (lit_int w true 2 (-2) (by decide) (by decide) (by decide)) (by decide +kernel)).mono ?_
  rintro e w' ⟨v,rfl,h,hb⟩
  rw [h.lits true 8 ⟨by decide,by decide,by decide⟩]
  exact ⟨rfl,hb⟩
theorem from_00 (w : World) : Calls Tryz.prog 19 #[.bool true,.agg #[.int .u64 0,.slice none 0 0]] w fun e w' => e = .returned (.agg #[.bool false,.int .u64 0,.slice none 0 0]) ∧ Below w.heap.size w w' := by
  refine (from_int true _ 0 w (IsNat.word ⟨by decide,by decide⟩)).mono ?_
  rintro e w' ⟨v,rfl,h,hb⟩
  rw [IsInt.lits (z := 0) h false 0 ⟨by decide,by decide,by decide⟩]
  exact ⟨rfl,hb⟩
theorem abs_00 (w : World) : Calls Tryz.prog 20 #[.agg #[.bool false,.int .u64 0,.slice none 0 0]] w fun e w' => e = .returned (.agg #[.int .u64 0,.slice none 0 0]) ∧ Below w.heap.size w w' := by
  refine (abs_int _ 0 w (lit_int w false 0 0 (by decide) (by decide) (by decide))).mono ?_
  rintro e w' ⟨v,rfl,h,hb⟩
  rw [h.one (by decide)]
  exact ⟨rfl,hb⟩
theorem bits_00 (w : World) : Calls Tryz.prog 18 #[.agg #[.int .u64 0,.slice none 0 0]] w fun e w' => e = .returned (.int .i64 0) ∧ Below w.heap.size w w' := by
  refine (bits_word 0 ⟨by decide,by decide⟩ w).mono ?_
  rintro e w' ⟨rfl,hb⟩
  exact ⟨by rw [show Lib.bitLen (0 : Int).toNat = 0 by decide +kernel]; rfl,hb⟩
/-- A variable of the region's own,whatever it holds. -/
def Spec.ivar (B : Nat) : Spec := ⟨fun vs w => ∃ p,∃ x y z : Value,vs.headD undef = Ptr p ∧ B ≤ p ∧ Row3 w p x y z ∧ ∃ (i : Nat) (q : Option Addr) (l c : Nat),(#[x,y,z] : Array Value)[i]? = some (Value.slice q l c),false,false,
  fun _ _ _ ⟨p,x,y,z,e,h1,h2,h3⟩ b => ⟨p,x,y,z,e,h1,h2.below b h2.lt,h3⟩,
  fun _ vs w w' k h t _ => by
    obtain ⟨p,x,y,z,e,h1,h2,h3⟩ := h
    by_cases hp : p = k
    · subst hp
      obtain ⟨_,cs,cs',t',g1,g2,g3,_,g4⟩ := t
      have h2' : w.heap[p]? = some (.cells #[x,y,z] 27 (0,0)) := h2
      rw [h2'] at g1
      simp only [Option.some.injEq,Obj.cells.injEq] at g1
      obtain ⟨rfl,rfl,_⟩ := g1
      obtain ⟨a,b,c,rfl⟩ : ∃ a b c,cs' = #[a,b,c] := by
        have : cs'.size = 3 := g3
        rcases cs' with ⟨_ | ⟨a,_ | ⟨b,_ | ⟨c,_ | _⟩⟩⟩⟩ <;> simp at this
        exact ⟨a,b,c,rfl⟩
      exact ⟨p,a,b,c,e,h1,g2,g4⟩
    · exact ⟨p,x,y,z,e,h1,(t.1.2.2.2.2 p hp).trans h2,h3⟩⟩
def Spec.ibox (B : Nat) (l : List Value) : Spec := .box B 27 (fun l' _ => l' = l) (fun _ _ _ h _ => h) (fun _ _ _ _ h _ => h)
theorem Row3.touchAny {w : World} {c : Nat} {x y z : Value} (h : Row3 w c x y z) (hs : ∃ (i : Nat) (q : Option Addr) (l c : Nat),(#[x,y,z] : Array Value)[i]? = some (Value.slice q l c)) (x' y' : Value) (q : Option Addr) (m j : Nat) :
    Touch c w (((w.setCell ⟨c,0,none⟩ x').setCell ⟨c,1,none⟩ y').setCell ⟨c,2,none⟩ (.slice q m j)) ∧ Row3 (((w.setCell ⟨c,0,none⟩ x').setCell ⟨c,1,none⟩ y').setCell ⟨c,2,none⟩ (.slice q m j)) c x' y' (.slice q m j) :=
  ⟨⟨(((Chg.refl c w).set 0 x').set 1 y').set 2 _,_,_,_,h,h.set3 _ _ _,rfl,hs,⟨2,_,_,_,rfl⟩⟩,h.set3 _ _ _⟩
set_option maxRecDepth 100000 in
set_option maxHeartbeats 40000000 in
theorem wholeKnown_walk (w : World) : Calls Tryz.prog 3 #[] w fun e w' => e = .returned (.bool true) ∧ Below w.heap.size w w' := by
  have hBw := Below.refl w.heap.size w
  go_enter Tryz.func3,Tryz.ntmps3
  have hb : Below w.heap.size w (w.alloc (.cells #[.bool false,.int .u64 0,.slice none 0 0] 27)) := by go_grown
  have u1 := (Row3.new w (.bool false) (.int .u64 0) (.slice none 0 0) (w.heap.size) rfl)
  replace hBw := hBw.trans (hb.mono hBw.size)
  clear hb
  go_wp2_with fail
  generalize (w.alloc (.cells #[.bool false,.int .u64 0,.slice none 0 0] 27)) = M0 at hBw u1 ⊢
  generalize w.heap.size = aM0 at u1 ⊢
  refine (of_lit (7) false 7 (by decide) (by decide) ⟨by decide,by decide⟩ M0).mono ?_
  rintro e v1 ⟨rfl,hb⟩
  replace u1 := u1.below hb u1.lt
  replace hBw := hBw.trans (hb.mono hBw.size)
  clear hb
  have u1_0 := u1.cell0
  have u1_1 := u1.cell1
  have u1_2 := u1.cell2
  go_wp2_with fail
  clear u1_0 u1_1 u1_2
  refine (of_lit (-2) true 2 (by decide) (by decide) ⟨by decide,by decide⟩ v1).mono ?_
  rintro e v2 ⟨rfl,hb⟩
  replace u1 := u1.below hb u1.lt
  replace hBw := hBw.trans (hb.mono hBw.size)
  clear hb
  have u1_0 := u1.cell0
  have u1_1 := u1.cell1
  have u1_2 := u1.cell2
  go_wp2_with fail
  clear u1_0 u1_1 u1_2
  refine (div_lit 7 (-2) (-4) (-1) false true true true 7 2 4 1 ⟨by decide,by decide,by decide⟩ ⟨by decide,by decide,by decide⟩ (by decide) ⟨by decide,by decide,by decide,by decide⟩ ⟨by decide,by decide,by decide,by decide⟩ v2).mono ?_
  rintro e v3 ⟨rfl,hb⟩
  replace u1 := u1.below hb u1.lt
  replace hBw := hBw.trans (hb.mono hBw.size)
  clear hb
  have hb : Below v3.heap.size v3 ((v3.alloc (.cells #[.bool true,.int .u64 4,.slice none 0 0] 27)).alloc (.cells #[.bool true,.int .u64 1,.slice none 0 0] 27)) := by go_grown
  have u2 := ((Row3.new v3 (.bool true) (.int .u64 4) (.slice none 0 0) (v3.heap.size) rfl).alloc (.cells #[.bool true,.int .u64 1,.slice none 0 0] 27))
  have u3 := (Row3.new (v3.alloc (.cells #[.bool true,.int .u64 4,.slice none 0 0] 27)) (.bool true) (.int .u64 1) (.slice none 0 0) (v3.heap.size + 1) (by simp))
  replace u1 := u1.below hb u1.lt
  replace hBw := hBw.trans (hb.mono hBw.size)
  clear hb
  go_wp2_with fail
  generalize ((v3.alloc (.cells #[.bool true,.int .u64 4,.slice none 0 0] 27)).alloc (.cells #[.bool true,.int .u64 1,.slice none 0 0] 27)) = M1 at hBw u1 u2 u3 ⊢
  generalize v3.heap.size = aM1 at u2 u3 ⊢
  refine (iparse_m0 M1).mono ?_
  rintro e v4 ⟨rfl,hb⟩
  replace u1 := u1.below hb u1.lt
  replace u2 := u2.below hb u2.lt
  replace u3 := u3.below hb u3.lt
  replace hBw := hBw.trans (hb.mono hBw.size)
  clear hb
  have hb : Below v4.heap.size v4 (v4.alloc (.cells #[.bool false,.int .u64 0,.slice none 0 0] 27)) := by go_grown
  replace u1 := u1.below hb u1.lt
  replace u2 := u2.below hb u2.lt
  replace u3 := u3.below hb u3.lt
  replace hBw := hBw.trans (hb.mono hBw.size)
  clear hb
  go_wp2_with fail
  generalize (v4.alloc (.cells #[.bool false,.int .u64 0,.slice none 0 0] 27)) = M2 at hBw u1 u2 u3 ⊢
  generalize v4.heap.size = aM2 at  ⊢
  refine (iparse_m12 M2).mono ?_
  rintro e v5 ⟨rfl,hb⟩
  replace u1 := u1.below hb u1.lt
  replace u2 := u2.below hb u2.lt
  replace u3 := u3.below hb u3.lt
  replace hBw := hBw.trans (hb.mono hBw.size)
  clear hb
  have hb : Below v5.heap.size v5 (v5.alloc (.cells #[.bool true,.int .u64 12,.slice none 0 0] 27)) := by go_grown
  have u7 := (Row3.new v5 (.bool true) (.int .u64 12) (.slice none 0 0) (v5.heap.size) rfl)
  replace u1 := u1.below hb u1.lt
  replace u2 := u2.below hb u2.lt
  replace u3 := u3.below hb u3.lt
  replace hBw := hBw.trans (hb.mono hBw.size)
  clear hb
  have u1_0 := u1.cell0
  have u1_1 := u1.cell1
  have u1_2 := u1.cell2
  go_wp2_with fail
  clear u1_0 u1_1 u1_2
  generalize (v5.alloc (.cells #[.bool true,.int .u64 12,.slice none 0 0] 27)) = M3 at hBw u1 u2 u3 u7 ⊢
  generalize v5.heap.size = aM3 at u7 ⊢
  have u1_0 := u1.cell0
  have u1_1 := u1.cell1
  have u1_2 := u1.cell2
  have u7_0 := u7.cell0
  have u7_1 := u7.cell1
  have u7_2 := u7.cell2
  go_wp2_with fail
  clear u1_0 u1_1 u1_2 u7_0 u7_1 u7_2
  refine (div0_int _ (-12) M3 (lit_int _ true 12 (-12) (by decide) (by decide) (by decide))).mono ?_
  rintro e v6 ⟨rfl,hb⟩
  replace u1 := u1.below hb u1.lt
  replace u2 := u2.below hb u2.lt
  replace u3 := u3.below hb u3.lt
  replace u7 := u7.below hb u7.lt
  replace hBw := hBw.trans (hb.mono hBw.size)
  clear hb
  have hb : Below v6.heap.size v6 ((v6.alloc (.cells #[.bool false,.int .u64 0,.slice none 0 0] 27)).alloc (.cells #[.bool false,.int .u64 0,.slice none 0 0] 27)) := by go_grown
  replace u1 := u1.below hb u1.lt
  replace u2 := u2.below hb u2.lt
  replace u3 := u3.below hb u3.lt
  replace u7 := u7.below hb u7.lt
  replace hBw := hBw.trans (hb.mono hBw.size)
  clear hb
  go_wp2_with fail
  generalize ((v6.alloc (.cells #[.bool false,.int .u64 0,.slice none 0 0] 27)).alloc (.cells #[.bool false,.int .u64 0,.slice none 0 0] 27)) = M4 at hBw u1 u2 u3 u7 ⊢
  generalize v6.heap.size = aM4 at  ⊢
  refine (of_lit (-9223372036854775808) true 9223372036854775808 (by decide) (by decide) ⟨by decide,by decide⟩ M4).mono ?_
  rintro e v7 ⟨rfl,hb⟩
  replace u1 := u1.below hb u1.lt
  replace u2 := u2.below hb u2.lt
  replace u3 := u3.below hb u3.lt
  replace u7 := u7.below hb u7.lt
  replace hBw := hBw.trans (hb.mono hBw.size)
  clear hb
  have u1_0 := u1.cell0
  have u1_1 := u1.cell1
  have u1_2 := u1.cell2
  have u2_0 := u2.cell0
  have u2_1 := u2.cell1
  have u2_2 := u2.cell2
  have u3_0 := u3.cell0
  have u3_1 := u3.cell1
  have u3_2 := u3.cell2
  have u7_0 := u7.cell0
  have u7_1 := u7.cell1
  have u7_2 := u7.cell2
  go_wp2_with fail
  clear u1_0 u1_1 u1_2 u2_0 u2_1 u2_2 u3_0 u3_1 u3_2 u7_0 u7_1 u7_2
  refine (small_min v7).mono ?_
  rintro e v8 ⟨rfl,hb⟩
  replace u1 := u1.below hb u1.lt
  replace u2 := u2.below hb u2.lt
  replace u3 := u3.below hb u3.lt
  replace u7 := u7.below hb u7.lt
  replace hBw := hBw.trans (hb.mono hBw.size)
  clear hb
  have u1_0 := u1.cell0
  have u1_1 := u1.cell1
  have u1_2 := u1.cell2
  have u2_0 := u2.cell0
  have u2_1 := u2.cell1
  have u2_2 := u2.cell2
  have u3_0 := u3.cell0
  have u3_1 := u3.cell1
  have u3_2 := u3.cell2
  have u7_0 := u7.cell0
  have u7_1 := u7.cell1
  have u7_2 := u7.cell2
  go_wp2_with fail
  clear u1_0 u1_1 u1_2 u2_0 u2_1 u2_2 u3_0 u3_1 u3_2 u7_0 u7_1 u7_2
  refine (of_lit (-9223372036854775808) true 9223372036854775808 (by decide) (by decide) ⟨by decide,by decide⟩ v8).mono ?_
  rintro e v9 ⟨rfl,hb⟩
  replace u1 := u1.below hb u1.lt
  replace u2 := u2.below hb u2.lt
  replace u3 := u3.below hb u3.lt
  replace u7 := u7.below hb u7.lt
  replace hBw := hBw.trans (hb.mono hBw.size)
  clear hb
  have u1_0 := u1.cell0
  have u1_1 := u1.cell1
  have u1_2 := u1.cell2
  have u2_0 := u2.cell0
  have u2_1 := u2.cell1
  have u2_2 := u2.cell2
  have u3_0 := u3.cell0
  have u3_1 := u3.cell1
  have u3_2 := u3.cell2
  have u7_0 := u7.cell0
  have u7_1 := u7.cell1
  have u7_2 := u7.cell2
  go_wp2_with fail
  clear u1_0 u1_1 u1_2 u2_0 u2_1 u2_2 u3_0 u3_1 u3_2 u7_0 u7_1 u7_2
  refine (neg_min v9).mono ?_
  rintro e v10 ⟨rfl,hb⟩
  replace u1 := u1.below hb u1.lt
  replace u2 := u2.below hb u2.lt
  replace u3 := u3.below hb u3.lt
  replace u7 := u7.below hb u7.lt
  replace hBw := hBw.trans (hb.mono hBw.size)
  clear hb
  have u1_0 := u1.cell0
  have u1_1 := u1.cell1
  have u1_2 := u1.cell2
  have u2_0 := u2.cell0
  have u2_1 := u2.cell1
  have u2_2 := u2.cell2
  have u3_0 := u3.cell0
  have u3_1 := u3.cell1
  have u3_2 := u3.cell2
  have u7_0 := u7.cell0
  have u7_1 := u7.cell1
  have u7_2 := u7.cell2
  go_wp2_with fail
  clear u1_0 u1_1 u1_2 u2_0 u2_1 u2_2 u3_0 u3_1 u3_2 u7_0 u7_1 u7_2
  refine (small_big v10).mono ?_
  rintro e v11 ⟨rfl,hb⟩
  replace u1 := u1.below hb u1.lt
  replace u2 := u2.below hb u2.lt
  replace u3 := u3.below hb u3.lt
  replace u7 := u7.below hb u7.lt
  replace hBw := hBw.trans (hb.mono hBw.size)
  clear hb
  have u1_0 := u1.cell0
  have u1_1 := u1.cell1
  have u1_2 := u1.cell2
  have u2_0 := u2.cell0
  have u2_1 := u2.cell1
  have u2_2 := u2.cell2
  have u3_0 := u3.cell0
  have u3_1 := u3.cell1
  have u3_2 := u3.cell2
  have u7_0 := u7.cell0
  have u7_1 := u7.cell1
  have u7_2 := u7.cell2
  go_wp2_with fail
  clear u1_0 u1_1 u1_2 u2_0 u2_1 u2_2 u3_0 u3_1 u3_2 u7_0 u7_1 u7_2
  refine (of_lit (-2) true 2 (by decide) (by decide) ⟨by decide,by decide⟩ v11).mono ?_
  rintro e v12 ⟨rfl,hb⟩
  replace u1 := u1.below hb u1.lt
  replace u2 := u2.below hb u2.lt
  replace u3 := u3.below hb u3.lt
  replace u7 := u7.below hb u7.lt
  replace hBw := hBw.trans (hb.mono hBw.size)
  clear hb
  have u1_0 := u1.cell0
  have u1_1 := u1.cell1
  have u1_2 := u1.cell2
  have u2_0 := u2.cell0
  have u2_1 := u2.cell1
  have u2_2 := u2.cell2
  have u3_0 := u3.cell0
  have u3_1 := u3.cell1
  have u3_2 := u3.cell2
  have u7_0 := u7.cell0
  have u7_1 := u7.cell1
  have u7_2 := u7.cell2
  go_wp2_with fail
  clear u1_0 u1_1 u1_2 u2_0 u2_1 u2_2 u3_0 u3_1 u3_2 u7_0 u7_1 u7_2
  refine (pow_m2 v12).mono ?_
  rintro e v13 ⟨rfl,hb⟩
  replace u1 := u1.below hb u1.lt
  replace u2 := u2.below hb u2.lt
  replace u3 := u3.below hb u3.lt
  replace u7 := u7.below hb u7.lt
  replace hBw := hBw.trans (hb.mono hBw.size)
  clear hb
  have hb : Below v13.heap.size v13 (v13.alloc (.cells #[.bool true,.int .u64 8,.slice none 0 0] 27)) := by go_grown
  have u16 := (Row3.new v13 (.bool true) (.int .u64 8) (.slice none 0 0) (v13.heap.size) rfl)
  replace u1 := u1.below hb u1.lt
  replace u2 := u2.below hb u2.lt
  replace u3 := u3.below hb u3.lt
  replace u7 := u7.below hb u7.lt
  replace hBw := hBw.trans (hb.mono hBw.size)
  clear hb
  go_wp2_with fail
  generalize (v13.alloc (.cells #[.bool true,.int .u64 8,.slice none 0 0] 27)) = M5 at hBw u1 u2 u3 u7 u16 ⊢
  generalize v13.heap.size = aM5 at u16 ⊢
  refine wpIn_wide (n := 5) |>.1 ?_
  refine region_rg [⟨some 60,[],[0],false,none,[],[],false,false,false⟩,⟨some 61,[],[1],false,none,[],[],false,false,false⟩,⟨some 62,[(0,some 60),(1,some 61)],[2],false,none,[],[],false,false,false⟩,⟨some 59,[(2,some 62)],[3],false,none,[],[],false,false,false⟩,⟨some 63,[(3,some 59)],[4],false,none,[],[],false,false,false⟩,⟨some 64,[(3,some 59)],[5],false,none,[],[],false,false,false⟩,⟨some 65,[(3,some 59)],[6],false,none,[],[],false,false,false⟩,⟨some 18,[],[7],false,none,[],[],false,false,false⟩,⟨some 19,[],[8],false,none,[],[],false,false,false⟩,⟨some 20,[],[9],false,none,[],[],false,false,false⟩,⟨none,[(7,some 18),(4,some 63)],[7],true,some 7,[],[],false,false,false⟩,⟨none,[(8,some 19),(5,some 64)],[8],true,some 8,[],[],false,false,false⟩,⟨none,[(9,some 20),(6,some 65)],[9],true,some 9,[],[],false,false,false⟩] [Spec.lit (.agg #[.bool true,.int .u64 5,.slice none 0 0]),Spec.lit (.agg #[.bool false,.int .u64 0,.slice none 0 0]),Spec.lit (.tuple #[.agg #[.bool false,.int .u64 5,.slice none 0 0],.agg #[.bool true,.int .u64 1,.slice none 0 0],.agg #[.bool false,.int .u64 0,.slice none 0 0]]),Spec.lit (.tuple #[.agg #[.bool false,.int .u64 5,.slice none 0 0],.agg #[.bool true,.int .u64 1,.slice none 0 0],.agg #[.bool false,.int .u64 0,.slice none 0 0]]),Spec.lit (.agg #[.bool false,.int .u64 5,.slice none 0 0]),Spec.lit (.agg #[.bool true,.int .u64 1,.slice none 0 0]),Spec.lit (.agg #[.bool false,.int .u64 0,.slice none 0 0]),Spec.ivar M5.heap.size,Spec.ivar M5.heap.size,Spec.ivar M5.heap.size,Spec.ibox M5.heap.size [.bool false,.int .u64 5,.slice none 0 0],Spec.ibox M5.heap.size [.bool true,.int .u64 1,.slice none 0 0],Spec.ibox M5.heap.size [.bool false,.int .u64 0,.slice none 0 0]] [7,8,9] (fun _ => False) [0,1,2,3,4,5,6,7,8,9,10,11,12] [0,1,2,3,4,5,6,10,11,12] (by kernel_rfl) rfl (by kernel_rfl) rfl (fun _ h => (h : False).elim) rfl (by kernel_rfl) [(0,some 60),(1,some 61),(2,some 62),(3,some 59),(4,some 63),(5,some 64),(6,some 65),(7,some 18),(8,some 19),(9,some 20),(10,none),(11,none),(12,none)] rfl (AllRuns.cons (some 60) [] [0] rfl rfl rfl rfl none rfl _ _ rfl rfl ?_ (AllRuns.cons (some 61) [] [1] rfl rfl rfl rfl none rfl _ _ rfl rfl ?_ (AllRuns.cons (some 62) [(0,some 60),(1,some 61)] [2] rfl rfl rfl rfl none rfl _ _ rfl rfl ?_ (AllRuns.cons (some 59) [(2,some 62)] [3] rfl rfl rfl rfl none rfl _ _ rfl rfl ?_ (AllRuns.cons (some 63) [(3,some 59)] [4] rfl rfl rfl rfl none rfl _ _ rfl rfl ?_ (AllRuns.cons (some 64) [(3,some 59)] [5] rfl rfl rfl rfl none rfl _ _ rfl rfl ?_ (AllRuns.cons (some 65) [(3,some 59)] [6] rfl rfl rfl rfl none rfl _ _ rfl rfl ?_ (AllRuns.cons (some 18) [] [7] rfl rfl rfl rfl none rfl _ _ rfl rfl ?_ (AllRuns.cons (some 19) [] [8] rfl rfl rfl rfl none rfl _ _ rfl rfl ?_ (AllRuns.cons (some 20) [] [9] rfl rfl rfl rfl none rfl _ _ rfl rfl ?_ (AllRuns.cons none [(7,some 18),(4,some 63)] [7] rfl rfl rfl rfl (some 7) rfl _ _ rfl rfl ?_ (AllRuns.cons none [(8,some 19),(5,some 64)] [8] rfl rfl rfl rfl (some 8) rfl _ _ rfl rfl ?_ (AllRuns.cons none [(9,some 20),(6,some 65)] [9] rfl rfl rfl rfl (some 9) rfl _ _ rfl rfl ?_ (AllRuns.nil)))))))))))))) ?_
  · rintro env W hB - K hK
    simp only [fill,Act.put,List.setIfInBounds_toArray,List.set_cons_zero,List.set_cons_succ] at hK ⊢
    go_simp
    gi_wp2_with (refine ⟨trivial,?_⟩; gi_at_call 7; refine (callsIn_wide.2 (of_lit (-5) true 5 (by decide) (by decide) ⟨by decide,by decide⟩ W)).mono ?_; rintro e W2 ⟨rfl,hb⟩)
    exact hid hK _ _ hb rfl (novar rfl)
  · rintro env W hB - K hK
    simp only [fill,Act.put,List.setIfInBounds_toArray,List.set_cons_zero,List.set_cons_succ] at hK ⊢
    have acc := Base.bx hB
    have rr := u1.below acc u1.lt
    have d0 := rr.cell0
    have d1 := rr.cell1
    have d2 := rr.cell2
    go_simp; exact hid hK _ _ (Below.refl _ _) rfl (novar rfl)
  · rintro env W hB ⟨h0,h1,-⟩ K hK
    have e0 : env 0 = .agg #[.bool true,.int .u64 5,.slice none 0 0] := h0
    have e1 : env 1 = .agg #[.bool false,.int .u64 0,.slice none 0 0] := h1
    simp only [fill,Act.put,List.setIfInBounds_toArray,List.set_cons_zero,List.set_cons_succ,e0,e1] at hK ⊢
    go_simp
    gi_wp2_with (refine ⟨trivial,?_⟩; gi_at_call 13; refine (callsIn_wide.2 (bez_50 W)).mono ?_; rintro e W2 ⟨rfl,hb⟩)
    exact hid hK _ _ hb rfl (novar rfl)
  · rintro env W hB ⟨h2,-⟩ K hK
    have e2 : env 2 = .tuple #[.agg #[.bool false,.int .u64 5,.slice none 0 0],.agg #[.bool true,.int .u64 1,.slice none 0 0],.agg #[.bool false,.int .u64 0,.slice none 0 0]] := h2
    simp only [fill,Act.put,List.setIfInBounds_toArray,List.set_cons_zero,List.set_cons_succ,e2] at hK ⊢
    go_simp; exact hid hK _ _ (Below.refl _ _) rfl (novar rfl)
  · rintro env W hB ⟨h3,-⟩ K hK
    have e3 : env 3 = .tuple #[.agg #[.bool false,.int .u64 5,.slice none 0 0],.agg #[.bool true,.int .u64 1,.slice none 0 0],.agg #[.bool false,.int .u64 0,.slice none 0 0]] := h3
    simp only [fill,Act.put,List.setIfInBounds_toArray,List.set_cons_zero,List.set_cons_succ,e3] at hK ⊢
    go_simp; exact hid hK _ _ (Below.refl _ _) rfl (novar rfl)
  · rintro env W hB ⟨h3,-⟩ K hK
    have e3 : env 3 = .tuple #[.agg #[.bool false,.int .u64 5,.slice none 0 0],.agg #[.bool true,.int .u64 1,.slice none 0 0],.agg #[.bool false,.int .u64 0,.slice none 0 0]] := h3
    simp only [fill,Act.put,List.setIfInBounds_toArray,List.set_cons_zero,List.set_cons_succ,e3] at hK ⊢
    go_simp; exact hid hK _ _ (Below.refl _ _) rfl (novar rfl)
  · rintro env W hB ⟨h3,-⟩ K hK
    have e3 : env 3 = .tuple #[.agg #[.bool false,.int .u64 5,.slice none 0 0],.agg #[.bool true,.int .u64 1,.slice none 0 0],.agg #[.bool false,.int .u64 0,.slice none 0 0]] := h3
    simp only [fill,Act.put,List.setIfInBounds_toArray,List.set_cons_zero,List.set_cons_succ,e3] at hK ⊢
    go_simp; exact hid hK _ _ (Below.refl _ _) rfl (novar rfl)
  · rintro env W hB - K hK
    simp only [fill,Act.put,List.setIfInBounds_toArray,List.set_cons_zero,List.set_cons_succ] at hK ⊢
    go_simp; exact hid hK _ _ (Below.refl _ _ |>.alloc (Nat.le_refl _) _) ⟨_,_,_,_,rfl,hB.2.2.2.1,Row3.new _ _ _ _ _ rfl,⟨2,_,_,_,rfl⟩⟩ (fun _ => ⟨rfl,by simp⟩)
  · rintro env W hB - K hK
    simp only [fill,Act.put,List.setIfInBounds_toArray,List.set_cons_zero,List.set_cons_succ] at hK ⊢
    go_simp; exact hid hK _ _ (Below.refl _ _ |>.alloc (Nat.le_refl _) _) ⟨_,_,_,_,rfl,hB.2.2.2.1,Row3.new _ _ _ _ _ rfl,⟨2,_,_,_,rfl⟩⟩ (fun _ => ⟨rfl,by simp⟩)
  · rintro env W hB - K hK
    simp only [fill,Act.put,List.setIfInBounds_toArray,List.set_cons_zero,List.set_cons_succ] at hK ⊢
    go_simp; exact hid hK _ _ (Below.refl _ _ |>.alloc (Nat.le_refl _) _) ⟨_,_,_,_,rfl,hB.2.2.2.1,Row3.new _ _ _ _ _ rfl,⟨2,_,_,_,rfl⟩⟩ (fun _ => ⟨rfl,by simp⟩)
  · rintro env W hB ⟨h7,h4,-⟩ K hK
    obtain ⟨p7,x7,y7,z7,ep7,hp7,rp7,sp7⟩ := h7
    have e7 : env 7 = .pointer (some ⟨p7,0,none⟩) := ep7
    have e4 : env 4 = .agg #[.bool false,.int .u64 5,.slice none 0 0] := h4
    simp only [fill,Act.put,List.setIfInBounds_toArray,List.set_cons_zero,List.set_cons_succ,e7,e4] at hK ⊢
    have j0 := rp7.free 0
    have j1 := rp7.free 1
    have j2 := rp7.free 2
    have c0 := rp7.cell0
    have c1 := rp7.cell1
    have c2 := rp7.cell2
    have tr := Row3.touchAny rp7 sp7 (.bool false) (.int .u64 5) none 0 0
    go_simp
    exact hid hK undef _ ⟨p7,ep7,hp7,tr.1⟩ ⟨p7,_,ep7,hp7,tr.2,rfl⟩ (novar rfl)
  · rintro env W hB ⟨h8,h5,-⟩ K hK
    obtain ⟨p8,x8,y8,z8,ep8,hp8,rp8,sp8⟩ := h8
    have e8 : env 8 = .pointer (some ⟨p8,0,none⟩) := ep8
    have e5 : env 5 = .agg #[.bool true,.int .u64 1,.slice none 0 0] := h5
    simp only [fill,Act.put,List.setIfInBounds_toArray,List.set_cons_zero,List.set_cons_succ,e8,e5] at hK ⊢
    have j0 := rp8.free 0
    have j1 := rp8.free 1
    have j2 := rp8.free 2
    have c0 := rp8.cell0
    have c1 := rp8.cell1
    have c2 := rp8.cell2
    have tr := Row3.touchAny rp8 sp8 (.bool true) (.int .u64 1) none 0 0
    go_simp
    exact hid hK undef _ ⟨p8,ep8,hp8,tr.1⟩ ⟨p8,_,ep8,hp8,tr.2,rfl⟩ (novar rfl)
  · rintro env W hB ⟨h9,h6,-⟩ K hK
    obtain ⟨p9,x9,y9,z9,ep9,hp9,rp9,sp9⟩ := h9
    have e9 : env 9 = .pointer (some ⟨p9,0,none⟩) := ep9
    have e6 : env 6 = .agg #[.bool false,.int .u64 0,.slice none 0 0] := h6
    simp only [fill,Act.put,List.setIfInBounds_toArray,List.set_cons_zero,List.set_cons_succ,e9,e6] at hK ⊢
    have j0 := rp9.free 0
    have j1 := rp9.free 1
    have j2 := rp9.free 2
    have c0 := rp9.cell0
    have c1 := rp9.cell1
    have c2 := rp9.cell2
    have tr := Row3.touchAny rp9 sp9 (.bool false) (.int .u64 0) none 0 0
    go_simp
    exact hid hK undef _ ⟨p9,ep9,hp9,tr.1⟩ ⟨p9,_,ep9,hp9,tr.2,rfl⟩ (novar rfl)
  · rintro env W9 hB ⟨h0,h1,h2,h3,h4,h5,h6,h10,h11,h12,-⟩ hv hap
    have e0 : env 0 = .agg #[.bool true,.int .u64 5,.slice none 0 0] := h0
    have e1 : env 1 = .agg #[.bool false,.int .u64 0,.slice none 0 0] := h1
    have e2 : env 2 = .tuple #[.agg #[.bool false,.int .u64 5,.slice none 0 0],.agg #[.bool true,.int .u64 1,.slice none 0 0],.agg #[.bool false,.int .u64 0,.slice none 0 0]] := h2
    have e3 : env 3 = .tuple #[.agg #[.bool false,.int .u64 5,.slice none 0 0],.agg #[.bool true,.int .u64 1,.slice none 0 0],.agg #[.bool false,.int .u64 0,.slice none 0 0]] := h3
    have e4 : env 4 = .agg #[.bool false,.int .u64 5,.slice none 0 0] := h4
    have e5 : env 5 = .agg #[.bool true,.int .u64 1,.slice none 0 0] := h5
    have e6 : env 6 = .agg #[.bool false,.int .u64 0,.slice none 0 0] := h6
    obtain ⟨p10,l10,ep10,hp10,rp10,hl10⟩ := h10
    have e7 : env 7 = .pointer (some ⟨p10,0,none⟩) := ep10
    subst hl10
    obtain ⟨p11,l11,ep11,hp11,rp11,hl11⟩ := h11
    have e8 : env 8 = .pointer (some ⟨p11,0,none⟩) := ep11
    subst hl11
    obtain ⟨p12,l12,ep12,hp12,rp12,hl12⟩ := h12
    have e9 : env 9 = .pointer (some ⟨p12,0,none⟩) := ep12
    subst hl12
    simp only [fill,Act.put,List.setIfInBounds_toArray,List.set_cons_zero,List.set_cons_succ,e0,e1,e2,e3,e4,e5,e6,e7,e8,e9]
    clear h0 e0 h1 e1 h2 e2 h3 e3 h4 e4 h5 e5 h6 e6
    have hb := Base.bx hB
    replace u1 := u1.below hb u1.lt
    replace u2 := u2.below hb u2.lt
    replace u3 := u3.below hb u3.lt
    replace u7 := u7.below hb u7.lt
    replace u16 := u16.below hb u16.lt
    replace hBw := hBw.trans (hb.mono hBw.size)
    clear hb
    clear hB hv hap
    have v18 : Row3 W9 p10 (.bool false) (.int .u64 5) (.slice none 0 0) := rp10
    have v19 : Row3 W9 p11 (.bool true) (.int .u64 1) (.slice none 0 0) := rp11
    have v20 : Row3 W9 p12 (.bool false) (.int .u64 0) (.slice none 0 0) := rp12
    clear e7 ep10 hp10 rp10 e8 ep11 hp11 rp11 e9 ep12 hp12 rp12
    have u1_0 := u1.cell0
    have u1_1 := u1.cell1
    have u1_2 := u1.cell2
    have u2_0 := u2.cell0
    have u2_1 := u2.cell1
    have u2_2 := u2.cell2
    have u3_0 := u3.cell0
    have u3_1 := u3.cell1
    have u3_2 := u3.cell2
    have u7_0 := u7.cell0
    have u7_1 := u7.cell1
    have u7_2 := u7.cell2
    have u16_0 := u16.cell0
    have u16_1 := u16.cell1
    have u16_2 := u16.cell2
    have v18_0 := v18.cell0
    have v18_1 := v18.cell1
    have v18_2 := v18.cell2
    have v19_0 := v19.cell0
    have v19_1 := v19.cell1
    have v19_2 := v19.cell2
    have v20_0 := v20.cell0
    have v20_1 := v20.cell1
    have v20_2 := v20.cell2
    go_wp2_with fail
    clear u1_0 u1_1 u1_2 u2_0 u2_1 u2_2 u3_0 u3_1 u3_2 u7_0 u7_1 u7_2 u16_0 u16_1 u16_2 v18_0 v18_1 v18_2 v19_0 v19_1 v19_2 v20_0 v20_1 v20_2
    refine (known2_true W9).mono ?_
    rintro e v1 ⟨rfl,hb⟩
    replace u1 := u1.below hb u1.lt
    replace u2 := u2.below hb u2.lt
    replace u3 := u3.below hb u3.lt
    replace u7 := u7.below hb u7.lt
    replace u16 := u16.below hb u16.lt
    replace v18 := v18.below hb v18.lt
    replace v19 := v19.below hb v19.lt
    replace v20 := v20.below hb v20.lt
    replace hBw := hBw.trans (hb.mono hBw.size)
    clear hb
    have u1_0 := u1.cell0
    have u1_1 := u1.cell1
    have u1_2 := u1.cell2
    have u2_0 := u2.cell0
    have u2_1 := u2.cell1
    have u2_2 := u2.cell2
    have u3_0 := u3.cell0
    have u3_1 := u3.cell1
    have u3_2 := u3.cell2
    have u7_0 := u7.cell0
    have u7_1 := u7.cell1
    have u7_2 := u7.cell2
    have u16_0 := u16.cell0
    have u16_1 := u16.cell1
    have u16_2 := u16.cell2
    have v18_0 := v18.cell0
    have v18_1 := v18.cell1
    have v18_2 := v18.cell2
    have v19_0 := v19.cell0
    have v19_1 := v19.cell1
    have v19_2 := v19.cell2
    have v20_0 := v20.cell0
    have v20_1 := v20.cell1
    have v20_2 := v20.cell2
    go_wp2_with fail
    clear u1_0 u1_1 u1_2 u2_0 u2_1 u2_2 u3_0 u3_1 u3_2 u7_0 u7_1 u7_2 u16_0 u16_1 u16_2 v18_0 v18_1 v18_2 v19_0 v19_1 v19_2 v20_0 v20_1 v20_2
    refine (itext_neg 4 52 text_4 v1).mono ?_
    rintro e v2 ⟨rfl,hb⟩
    replace u1 := u1.below hb u1.lt
    replace u2 := u2.below hb u2.lt
    replace u3 := u3.below hb u3.lt
    replace u7 := u7.below hb u7.lt
    replace u16 := u16.below hb u16.lt
    replace v18 := v18.below hb v18.lt
    replace v19 := v19.below hb v19.lt
    replace v20 := v20.below hb v20.lt
    replace hBw := hBw.trans (hb.mono hBw.size)
    clear hb
    have u1_0 := u1.cell0
    have u1_1 := u1.cell1
    have u1_2 := u1.cell2
    have u2_0 := u2.cell0
    have u2_1 := u2.cell1
    have u2_2 := u2.cell2
    have u3_0 := u3.cell0
    have u3_1 := u3.cell1
    have u3_2 := u3.cell2
    have u7_0 := u7.cell0
    have u7_1 := u7.cell1
    have u7_2 := u7.cell2
    have u16_0 := u16.cell0
    have u16_1 := u16.cell1
    have u16_2 := u16.cell2
    have v18_0 := v18.cell0
    have v18_1 := v18.cell1
    have v18_2 := v18.cell2
    have v19_0 := v19.cell0
    have v19_1 := v19.cell1
    have v19_2 := v19.cell2
    have v20_0 := v20.cell0
    have v20_1 := v20.cell1
    have v20_2 := v20.cell2
    go_wp2_with fail
    clear u1_0 u1_1 u1_2 u2_0 u2_1 u2_2 u3_0 u3_1 u3_2 u7_0 u7_1 u7_2 u16_0 u16_1 u16_2 v18_0 v18_1 v18_2 v19_0 v19_1 v19_2 v20_0 v20_1 v20_2
    refine (itext_neg 1 49 text_1 v2).mono ?_
    rintro e v3 ⟨rfl,hb⟩
    replace u1 := u1.below hb u1.lt
    replace u2 := u2.below hb u2.lt
    replace u3 := u3.below hb u3.lt
    replace u7 := u7.below hb u7.lt
    replace u16 := u16.below hb u16.lt
    replace v18 := v18.below hb v18.lt
    replace v19 := v19.below hb v19.lt
    replace v20 := v20.below hb v20.lt
    replace hBw := hBw.trans (hb.mono hBw.size)
    clear hb
    have u1_0 := u1.cell0
    have u1_1 := u1.cell1
    have u1_2 := u1.cell2
    have u2_0 := u2.cell0
    have u2_1 := u2.cell1
    have u2_2 := u2.cell2
    have u3_0 := u3.cell0
    have u3_1 := u3.cell1
    have u3_2 := u3.cell2
    have u7_0 := u7.cell0
    have u7_1 := u7.cell1
    have u7_2 := u7.cell2
    have u16_0 := u16.cell0
    have u16_1 := u16.cell1
    have u16_2 := u16.cell2
    have v18_0 := v18.cell0
    have v18_1 := v18.cell1
    have v18_2 := v18.cell2
    have v19_0 := v19.cell0
    have v19_1 := v19.cell1
    have v19_2 := v19.cell2
    have v20_0 := v20.cell0
    have v20_1 := v20.cell1
    have v20_2 := v20.cell2
    go_wp2_with fail
    clear u1_0 u1_1 u1_2 u2_0 u2_1 u2_2 u3_0 u3_1 u3_2 u7_0 u7_1 u7_2 u16_0 u16_1 u16_2 v18_0 v18_1 v18_2 v19_0 v19_1 v19_2 v20_0 v20_1 v20_2
    refine (sign_lit (-12) true 12 ⟨by decide,by decide,by decide⟩ (-1) (by decide) v3).mono ?_
    rintro e v4 ⟨rfl,hb⟩
    replace u1 := u1.below hb u1.lt
    replace u2 := u2.below hb u2.lt
    replace u3 := u3.below hb u3.lt
    replace u7 := u7.below hb u7.lt
    replace u16 := u16.below hb u16.lt
    replace v18 := v18.below hb v18.lt
    replace v19 := v19.below hb v19.lt
    replace v20 := v20.below hb v20.lt
    replace hBw := hBw.trans (hb.mono hBw.size)
    clear hb
    have u1_0 := u1.cell0
    have u1_1 := u1.cell1
    have u1_2 := u1.cell2
    have u2_0 := u2.cell0
    have u2_1 := u2.cell1
    have u2_2 := u2.cell2
    have u3_0 := u3.cell0
    have u3_1 := u3.cell1
    have u3_2 := u3.cell2
    have u7_0 := u7.cell0
    have u7_1 := u7.cell1
    have u7_2 := u7.cell2
    have u16_0 := u16.cell0
    have u16_1 := u16.cell1
    have u16_2 := u16.cell2
    have v18_0 := v18.cell0
    have v18_1 := v18.cell1
    have v18_2 := v18.cell2
    have v19_0 := v19.cell0
    have v19_1 := v19.cell1
    have v19_2 := v19.cell2
    have v20_0 := v20.cell0
    have v20_1 := v20.cell1
    have v20_2 := v20.cell2
    go_wp2_with fail
    clear u1_0 u1_1 u1_2 u2_0 u2_1 u2_2 u3_0 u3_1 u3_2 u7_0 u7_1 u7_2 u16_0 u16_1 u16_2 v18_0 v18_1 v18_2 v19_0 v19_1 v19_2 v20_0 v20_1 v20_2
    refine (itext_neg 8 56 text_8 v4).mono ?_
    rintro e v5 ⟨rfl,hb⟩
    replace u1 := u1.below hb u1.lt
    replace u2 := u2.below hb u2.lt
    replace u3 := u3.below hb u3.lt
    replace u7 := u7.below hb u7.lt
    replace u16 := u16.below hb u16.lt
    replace v18 := v18.below hb v18.lt
    replace v19 := v19.below hb v19.lt
    replace v20 := v20.below hb v20.lt
    replace hBw := hBw.trans (hb.mono hBw.size)
    clear hb
    have u1_0 := u1.cell0
    have u1_1 := u1.cell1
    have u1_2 := u1.cell2
    have u2_0 := u2.cell0
    have u2_1 := u2.cell1
    have u2_2 := u2.cell2
    have u3_0 := u3.cell0
    have u3_1 := u3.cell1
    have u3_2 := u3.cell2
    have u7_0 := u7.cell0
    have u7_1 := u7.cell1
    have u7_2 := u7.cell2
    have u16_0 := u16.cell0
    have u16_1 := u16.cell1
    have u16_2 := u16.cell2
    have v18_0 := v18.cell0
    have v18_1 := v18.cell1
    have v18_2 := v18.cell2
    have v19_0 := v19.cell0
    have v19_1 := v19.cell1
    have v19_2 := v19.cell2
    have v20_0 := v20.cell0
    have v20_1 := v20.cell1
    have v20_2 := v20.cell2
    go_wp2_with fail
    clear u1_0 u1_1 u1_2 u2_0 u2_1 u2_2 u3_0 u3_1 u3_2 u7_0 u7_1 u7_2 u16_0 u16_1 u16_2 v18_0 v18_1 v18_2 v19_0 v19_1 v19_2 v20_0 v20_1 v20_2
    refine (itext_pos 5 _ text_5 v5).mono ?_
    rintro e v6 ⟨rfl,hb⟩
    replace u1 := u1.below hb u1.lt
    replace u2 := u2.below hb u2.lt
    replace u3 := u3.below hb u3.lt
    replace u7 := u7.below hb u7.lt
    replace u16 := u16.below hb u16.lt
    replace v18 := v18.below hb v18.lt
    replace v19 := v19.below hb v19.lt
    replace v20 := v20.below hb v20.lt
    replace hBw := hBw.trans (hb.mono hBw.size)
    clear hb
    have u1_0 := u1.cell0
    have u1_1 := u1.cell1
    have u1_2 := u1.cell2
    have u2_0 := u2.cell0
    have u2_1 := u2.cell1
    have u2_2 := u2.cell2
    have u3_0 := u3.cell0
    have u3_1 := u3.cell1
    have u3_2 := u3.cell2
    have u7_0 := u7.cell0
    have u7_1 := u7.cell1
    have u7_2 := u7.cell2
    have u16_0 := u16.cell0
    have u16_1 := u16.cell1
    have u16_2 := u16.cell2
    have v18_0 := v18.cell0
    have v18_1 := v18.cell1
    have v18_2 := v18.cell2
    have v19_0 := v19.cell0
    have v19_1 := v19.cell1
    have v19_2 := v19.cell2
    have v20_0 := v20.cell0
    have v20_1 := v20.cell1
    have v20_2 := v20.cell2
    go_wp2_with fail
    clear u1_0 u1_1 u1_2 u2_0 u2_1 u2_2 u3_0 u3_1 u3_2 u7_0 u7_1 u7_2 u16_0 u16_1 u16_2 v18_0 v18_1 v18_2 v19_0 v19_1 v19_2 v20_0 v20_1 v20_2
    refine (itext_neg 1 49 text_1 v6).mono ?_
    rintro e v7 ⟨rfl,hb⟩
    replace u1 := u1.below hb u1.lt
    replace u2 := u2.below hb u2.lt
    replace u3 := u3.below hb u3.lt
    replace u7 := u7.below hb u7.lt
    replace u16 := u16.below hb u16.lt
    replace v18 := v18.below hb v18.lt
    replace v19 := v19.below hb v19.lt
    replace v20 := v20.below hb v20.lt
    replace hBw := hBw.trans (hb.mono hBw.size)
    clear hb
    have u1_0 := u1.cell0
    have u1_1 := u1.cell1
    have u1_2 := u1.cell2
    have u2_0 := u2.cell0
    have u2_1 := u2.cell1
    have u2_2 := u2.cell2
    have u3_0 := u3.cell0
    have u3_1 := u3.cell1
    have u3_2 := u3.cell2
    have u7_0 := u7.cell0
    have u7_1 := u7.cell1
    have u7_2 := u7.cell2
    have u16_0 := u16.cell0
    have u16_1 := u16.cell1
    have u16_2 := u16.cell2
    have v18_0 := v18.cell0
    have v18_1 := v18.cell1
    have v18_2 := v18.cell2
    have v19_0 := v19.cell0
    have v19_1 := v19.cell1
    have v19_2 := v19.cell2
    have v20_0 := v20.cell0
    have v20_1 := v20.cell1
    have v20_2 := v20.cell2
    go_wp2_with fail
    clear u1_0 u1_1 u1_2 u2_0 u2_1 u2_2 u3_0 u3_1 u3_2 u7_0 u7_1 u7_2 u16_0 u16_1 u16_2 v18_0 v18_1 v18_2 v19_0 v19_1 v19_2 v20_0 v20_1 v20_2
    refine (sign_lit 0 false 0 ⟨by decide,by decide,by decide⟩ 0 (by decide) v7).mono ?_
    rintro e v8 ⟨rfl,hb⟩
    replace u1 := u1.below hb u1.lt
    replace u2 := u2.below hb u2.lt
    replace u3 := u3.below hb u3.lt
    replace u7 := u7.below hb u7.lt
    replace u16 := u16.below hb u16.lt
    replace v18 := v18.below hb v18.lt
    replace v19 := v19.below hb v19.lt
    replace v20 := v20.below hb v20.lt
    replace hBw := hBw.trans (hb.mono hBw.size)
    clear hb
    have u1_0 := u1.cell0
    have u1_1 := u1.cell1
    have u1_2 := u1.cell2
    have u2_0 := u2.cell0
    have u2_1 := u2.cell1
    have u2_2 := u2.cell2
    have u3_0 := u3.cell0
    have u3_1 := u3.cell1
    have u3_2 := u3.cell2
    have u7_0 := u7.cell0
    have u7_1 := u7.cell1
    have u7_2 := u7.cell2
    have u16_0 := u16.cell0
    have u16_1 := u16.cell1
    have u16_2 := u16.cell2
    have v18_0 := v18.cell0
    have v18_1 := v18.cell1
    have v18_2 := v18.cell2
    have v19_0 := v19.cell0
    have v19_1 := v19.cell1
    have v19_2 := v19.cell2
    have v20_0 := v20.cell0
    have v20_1 := v20.cell1
    have v20_2 := v20.cell2
    go_wp2_with fail
    clear u1_0 u1_1 u1_2 u2_0 u2_1 u2_2 u3_0 u3_1 u3_2 u7_0 u7_1 u7_2 u16_0 u16_1 u16_2 v18_0 v18_1 v18_2 v19_0 v19_1 v19_2 v20_0 v20_1 v20_2
    refine (gcd_00 v8).mono ?_
    rintro e v9 ⟨rfl,hb⟩
    replace u1 := u1.below hb u1.lt
    replace u2 := u2.below hb u2.lt
    replace u3 := u3.below hb u3.lt
    replace u7 := u7.below hb u7.lt
    replace u16 := u16.below hb u16.lt
    replace v18 := v18.below hb v18.lt
    replace v19 := v19.below hb v19.lt
    replace v20 := v20.below hb v20.lt
    replace hBw := hBw.trans (hb.mono hBw.size)
    clear hb
    have u1_0 := u1.cell0
    have u1_1 := u1.cell1
    have u1_2 := u1.cell2
    have u2_0 := u2.cell0
    have u2_1 := u2.cell1
    have u2_2 := u2.cell2
    have u3_0 := u3.cell0
    have u3_1 := u3.cell1
    have u3_2 := u3.cell2
    have u7_0 := u7.cell0
    have u7_1 := u7.cell1
    have u7_2 := u7.cell2
    have u16_0 := u16.cell0
    have u16_1 := u16.cell1
    have u16_2 := u16.cell2
    have v18_0 := v18.cell0
    have v18_1 := v18.cell1
    have v18_2 := v18.cell2
    have v19_0 := v19.cell0
    have v19_1 := v19.cell1
    have v19_2 := v19.cell2
    have v20_0 := v20.cell0
    have v20_1 := v20.cell1
    have v20_2 := v20.cell2
    go_wp2_with fail
    clear u1_0 u1_1 u1_2 u2_0 u2_1 u2_2 u3_0 u3_1 u3_2 u7_0 u7_1 u7_2 u16_0 u16_1 u16_2 v18_0 v18_1 v18_2 v19_0 v19_1 v19_2 v20_0 v20_1 v20_2
    refine (bits_00 v9).mono ?_
    rintro e v10 ⟨rfl,hb⟩
    replace u1 := u1.below hb u1.lt
    replace u2 := u2.below hb u2.lt
    replace u3 := u3.below hb u3.lt
    replace u7 := u7.below hb u7.lt
    replace u16 := u16.below hb u16.lt
    replace v18 := v18.below hb v18.lt
    replace v19 := v19.below hb v19.lt
    replace v20 := v20.below hb v20.lt
    replace hBw := hBw.trans (hb.mono hBw.size)
    clear hb
    have u1_0 := u1.cell0
    have u1_1 := u1.cell1
    have u1_2 := u1.cell2
    have u2_0 := u2.cell0
    have u2_1 := u2.cell1
    have u2_2 := u2.cell2
    have u3_0 := u3.cell0
    have u3_1 := u3.cell1
    have u3_2 := u3.cell2
    have u7_0 := u7.cell0
    have u7_1 := u7.cell1
    have u7_2 := u7.cell2
    have u16_0 := u16.cell0
    have u16_1 := u16.cell1
    have u16_2 := u16.cell2
    have v18_0 := v18.cell0
    have v18_1 := v18.cell1
    have v18_2 := v18.cell2
    have v19_0 := v19.cell0
    have v19_1 := v19.cell1
    have v19_2 := v19.cell2
    have v20_0 := v20.cell0
    have v20_1 := v20.cell1
    have v20_2 := v20.cell2
    go_wp2_with fail
    clear u1_0 u1_1 u1_2 u2_0 u2_1 u2_2 u3_0 u3_1 u3_2 u7_0 u7_1 u7_2 u16_0 u16_1 u16_2 v18_0 v18_1 v18_2 v19_0 v19_1 v19_2 v20_0 v20_1 v20_2
    refine (abs_00 v10).mono ?_
    rintro e v11 ⟨rfl,hb⟩
    replace u1 := u1.below hb u1.lt
    replace u2 := u2.below hb u2.lt
    replace u3 := u3.below hb u3.lt
    replace u7 := u7.below hb u7.lt
    replace u16 := u16.below hb u16.lt
    replace v18 := v18.below hb v18.lt
    replace v19 := v19.below hb v19.lt
    replace v20 := v20.below hb v20.lt
    replace hBw := hBw.trans (hb.mono hBw.size)
    clear hb
    have u1_0 := u1.cell0
    have u1_1 := u1.cell1
    have u1_2 := u1.cell2
    have u2_0 := u2.cell0
    have u2_1 := u2.cell1
    have u2_2 := u2.cell2
    have u3_0 := u3.cell0
    have u3_1 := u3.cell1
    have u3_2 := u3.cell2
    have u7_0 := u7.cell0
    have u7_1 := u7.cell1
    have u7_2 := u7.cell2
    have u16_0 := u16.cell0
    have u16_1 := u16.cell1
    have u16_2 := u16.cell2
    have v18_0 := v18.cell0
    have v18_1 := v18.cell1
    have v18_2 := v18.cell2
    have v19_0 := v19.cell0
    have v19_1 := v19.cell1
    have v19_2 := v19.cell2
    have v20_0 := v20.cell0
    have v20_1 := v20.cell1
    have v20_2 := v20.cell2
    go_wp2_with fail
    clear u1_0 u1_1 u1_2 u2_0 u2_1 u2_2 u3_0 u3_1 u3_2 u7_0 u7_1 u7_2 u16_0 u16_1 u16_2 v18_0 v18_1 v18_2 v19_0 v19_1 v19_2 v20_0 v20_1 v20_2
    refine (from_00 v11).mono ?_
    rintro e v12 ⟨rfl,hb⟩
    replace u1 := u1.below hb u1.lt
    replace u2 := u2.below hb u2.lt
    replace u3 := u3.below hb u3.lt
    replace u7 := u7.below hb u7.lt
    replace u16 := u16.below hb u16.lt
    replace v18 := v18.below hb v18.lt
    replace v19 := v19.below hb v19.lt
    replace v20 := v20.below hb v20.lt
    replace hBw := hBw.trans (hb.mono hBw.size)
    clear hb
    have u1_0 := u1.cell0
    have u1_1 := u1.cell1
    have u1_2 := u1.cell2
    have u2_0 := u2.cell0
    have u2_1 := u2.cell1
    have u2_2 := u2.cell2
    have u3_0 := u3.cell0
    have u3_1 := u3.cell1
    have u3_2 := u3.cell2
    have u7_0 := u7.cell0
    have u7_1 := u7.cell1
    have u7_2 := u7.cell2
    have u16_0 := u16.cell0
    have u16_1 := u16.cell1
    have u16_2 := u16.cell2
    have v18_0 := v18.cell0
    have v18_1 := v18.cell1
    have v18_2 := v18.cell2
    have v19_0 := v19.cell0
    have v19_1 := v19.cell1
    have v19_2 := v19.cell2
    have v20_0 := v20.cell0
    have v20_1 := v20.cell1
    have v20_2 := v20.cell2
    go_wp2_with fail
    clear u1_0 u1_1 u1_2 u2_0 u2_1 u2_2 u3_0 u3_1 u3_2 u7_0 u7_1 u7_2 u16_0 u16_1 u16_2 v18_0 v18_1 v18_2 v19_0 v19_1 v19_2 v20_0 v20_1 v20_2
    refine (sign_lit 0 false 0 ⟨by decide,by decide,by decide⟩ 0 (by decide) v12).mono ?_
    rintro e v13 ⟨rfl,hb⟩
    replace u1 := u1.below hb u1.lt
    replace u2 := u2.below hb u2.lt
    replace u3 := u3.below hb u3.lt
    replace u7 := u7.below hb u7.lt
    replace u16 := u16.below hb u16.lt
    replace v18 := v18.below hb v18.lt
    replace v19 := v19.below hb v19.lt
    replace v20 := v20.below hb v20.lt
    replace hBw := hBw.trans (hb.mono hBw.size)
    clear hb
    go_wp2
    go_ret
    exact ⟨rfl,hBw⟩
end Go.Proofs.YtogildikglomkaaGreatDoor
