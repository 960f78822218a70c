/- Contract of (Nat).Div over one word by another. -/
import Derived.Test.YtjaepdjidfhamaaDoorTwo
import Derived.Deep.RegionWith
import Derived.Deep.RegionHeld3
namespace Go.Proofs.YtjaepdjidfhamaaDoor
open Go.RowKit
set_option linter.unusedVariables false

theorem bits_nz {m : Int} (h : Word m) (hm : m ≠ 0) : (((Lib.bitLen m.toNat : Nat) : Int) == 0) = false := by
  have := Lib.bitLenAux_bounds 64 m.toNat (by unfold Word at h; omega) (by unfold Word at h; omega)
  have h2 : 1 ≤ Lib.bitLen m.toNat := this.1
  simp; omega

/-- The boxes of Div: both numbers and both results. -/
structure Boxes (w w2 : World) (x0 y0 x1 y1 x2 y2 x3 y3 : Value) : Prop where
  v0 : Var w2 w.heap.size x0 y0
  v1 : Var w2 (w.heap.size + 1) x1 y1
  v2 : Var w2 (w.heap.size + 1 + 1) x2 y2
  v3 : Var w2 (w.heap.size + 1 + 1 + 1) x3 y3
  below : Below w.heap.size w w2
theorem boxes {w w2 : World} {x0 x1 x2 x3 : Value} {p0 p1 p2 p3 : Option Addr} {l0 l1 l2 l3 q0 q1 q2 q3 : Nat}
    (hb : Below (w.heap.size + 1 + 1 + 1 + 1) ((((w.alloc (.cells #[x0, .slice p0 l0 q0] 25)).alloc (.cells #[x1, .slice p1 l1 q1] 25)).alloc (.cells #[x2, .slice p2 l2 q2] 25)).alloc (.cells #[x3, .slice p3 l3 q3] 25)) w2) :
    Boxes w w2 x0 (.slice p0 l0 q0) x1 (.slice p1 l1 q1) x2 (.slice p2 l2 q2) x3 (.slice p3 l3 q3) :=
  ⟨((((Var.new w _ x0 p0 l0 q0 rfl).alloc _).alloc _).alloc _).below hb (by omega), (((Var.new _ _ x1 p1 l1 q1 (by simp)).alloc _).alloc _).below hb (by omega),
   ((Var.new _ _ x2 p2 l2 q2 (by simp)).alloc _).below hb (by omega), (Var.new _ _ x3 p3 l3 q3 (by simp)).below hb (by omega),
   Below.trans (by go_grown) (hb.mono (by omega))⟩

theorem of_exact (n : Int) (w : World) :
    Calls Tryd.prog 7 #[.int .u64 n] w fun e w' => e = .returned (.agg #[.int .u64 n, .slice none 0 0]) ∧ w.alloc (.cells #[.int .u64 n, .slice none 0 0] 25) = w' := by
  go_enter Tryd.func7, Tryd.ntmps7
  go_wp2
  go_returns
  exact ⟨rfl, rfl⟩

set_option maxRecDepth 100000 in
set_option maxHeartbeats 1000000 in
theorem div_below (n m : Int) (hn : Word n) (hm : Word m) (hm0 : m ≠ 0) (hlt : n < m) (w : World) :
    Calls Tryd.prog 9 #[.agg #[.int .u64 n, .slice none 0 0], .agg #[.int .u64 m, .slice none 0 0]] w (RetDiv 0 n w) := by
  have e1 := eqnil
  have hz := bits_nz hm hm0
  have hc := fun w => cmp_any (.agg #[.int .u64 n, .slice none 0 0]) (.agg #[.int .u64 m, .slice none 0 0]) n m w (IsNat.word hn) (IsNat.word hm)
  rw [cmpI_lt hlt] at hc
  go_enter Tryd.func9, Tryd.ntmps9
  go_wp2_with (first | (go_at_call 13; refine (bits_word m hm _).mono ?_; rintro e w1 ⟨rfl, hb1⟩; obtain ⟨hc1, hf1⟩ := bcell hb1) | (go_at_call 16; refine (hc _).mono ?_; rintro e w2 ⟨rfl, hb2⟩; have hB2 := hb1.trans (hb2.mono hb1.size); obtain ⟨hc2, hf2⟩ := bcell hB2; clear hc1 hf1))
  clear hc2 hf2 hz hc
  obtain ⟨v0, v1, v2, v3, hB⟩ := boxes (w := w) (by simpa using hB2)
  clear hB2 hb1 hb2
  have c00 := v0.c0
  have c01 := v0.c1
  have c20 := v2.c0
  have c21 := v2.c1
  have c30 := v3.c0
  have c31 := v3.c1
  have f20 := v2.free 0
  have f21 := v2.free 1
  have f30 := v3.free 0
  have f31 := v3.free 1
  go_region
  go_wp2
  exact bodyPost_div Tryd.results9 rfl rfl rfl rfl
    (((v2.set (.int .u64 0) none 0 0).other (by omega) _).other (by omega) _).drew
    (((v3.other (by omega) _).other (by omega) _).set _ none 0 0).drew
    (IsNat.word ⟨by decide, by decide⟩) (IsNat.word hn) (below_two (below_two hB (by omega) _ _) (by omega) _ _).drew
set_option maxRecDepth 100000 in
set_option maxHeartbeats 2000000 in
theorem div_above (n m : Int) (hn : Word n) (hm : Word m) (hm0 : m ≠ 0) (hlt : ¬ n < m) (w : World) :
    Calls Tryd.prog 9 #[.agg #[.int .u64 n, .slice none 0 0], .agg #[.int .u64 m, .slice none 0 0]] w (RetDiv (n / m) (n % m) w) := by
  have e1 := eqnil
  have hz := bits_nz hm hm0
  have hc := fun w => cmp_any (.agg #[.int .u64 n, .slice none 0 0]) (.agg #[.int .u64 m, .slice none 0 0]) n m w (IsNat.word hn) (IsNat.word hm)
  have hd : ¬ cmpI n m < 0 := by unfold cmpI; rw [if_neg hlt]; split <;> omega
  obtain ⟨d, hdd⟩ : ∃ d, cmpI n m = d := ⟨_, rfl⟩
  rw [hdd] at hc hd
  clear hdd
  go_enter Tryd.func9, Tryd.ntmps9
  go_wp2_with (first | (go_at_call 13; refine (bits_word m hm _).mono ?_; rintro e w1 ⟨rfl, hb1⟩; obtain ⟨hc1, hf1⟩ := bcell hb1) | (go_at_call 16; refine (hc _).mono ?_; rintro e w2 ⟨rfl, hb2⟩; have hB2 := hb1.trans (hb2.mono hb1.size); obtain ⟨hc2, hf2⟩ := bcell hB2; clear hc1 hf1))
  clear hc2 hf2 hz hc
  obtain ⟨v0, v1, v2, v3, hB⟩ := boxes (w := w) (by simpa using hB2)
  clear hB2 hb1 hb2
  have z0 := v0.lt
  have z1 := v1.lt
  have z2 := v2.lt
  have z3 := v3.lt
  have acc := Below.refl w2.heap.size w2
  have d02 : w.heap.size ≠ w.heap.size + 1 + 1 := by omega
  have d03 : w.heap.size ≠ w.heap.size + 1 + 1 + 1 := by omega
  have d12 : w.heap.size + 1 ≠ w.heap.size + 1 + 1 := by omega
  have d13 : w.heap.size + 1 ≠ w.heap.size + 1 + 1 + 1 := by omega
  go_region_held3 (fun w' => w'.cell? ⟨w.heap.size, 0, none⟩ = some (.int .u64 n) ∧ w'.cell? ⟨w.heap.size + 1, 0, none⟩ = some (.int .u64 m))
    (first | with_reducible exact ⟨(v0.below acc z0).c0, (v1.below acc z1).c0⟩ | with_reducible exact ⟨(v0.below acc z0).drew.c0, (v1.below acc z1).drew.c0⟩ | with_reducible exact ⟨(((v0.below acc z0).other d02 _).other d02 _).c0, (((v1.below acc z1).other d12 _).other d12 _).c0⟩ | with_reducible exact ⟨(((((v0.below acc z0).other d02 _).other d02 _).other d03 _).other d03 _).c0, (((((v1.below acc z1).other d12 _).other d12 _).other d13 _).other d13 _).c0⟩)
    ((go_at_call 7; refine (of_any _ _).mono ?_; rintro e w3 ⟨rfl, hb3⟩; (first | replace acc := below_acc acc acc.size hb3 | replace acc := below_accD acc acc.size hb3); clear hb3; have c20 := (v2.below acc z2).c0; have c21 := (v2.below acc z2).c1; have c30 := (v3.below acc z3).c0; have c31 := (v3.below acc z3).c1; have f20 := (v2.below acc z2).free 0; have f21 := (v2.below acc z2).free 1; have f30 := (v3.below acc z3).free 0; have f31 := (v3.below acc z3).free 1))
  have hq : IntKind.u64.wrap (n.tdiv m) = n / m := by
    rw [Int.tdiv_eq_ediv_of_nonneg hn.1, IntKind.wrap_u64]
    have h1 := Int.ediv_nonneg hn.1 hm.1
    have h2 : n / m ≤ n := Int.ediv_le_self m hn.1
    unfold Word at hn
    omega
  have hr : n.tmod m = n % m := Int.tmod_eq_emod_of_nonneg hn.1
  rw [hq, hr]
  go_wp2
  have hmp : 0 < m := by unfold Word at hm; omega
  have h1 := Int.ediv_nonneg hn.1 hm.1
  have h2 : n / m ≤ n := Int.ediv_le_self m hn.1
  have h3 := Int.emod_nonneg n hm0
  have h4 := Int.emod_lt_of_pos n hmp
  exact bodyPost_div Tryd.results9 rfl rfl rfl rfl
    ((((v2.below acc z2).set (.int .u64 (n / m)) none 0 0).other (by omega) _).other (by omega) _)
    ((((v3.below acc z3).other (by omega) _).other (by omega) _).set _ none 0 0)
    (IsNat.word ⟨h1, by unfold Word at hn; omega⟩) (IsNat.word ⟨h3, by unfold Word at hm; omega⟩) (below_two (below_two (hB.trans (acc.mono hB.size)) (by omega) _ _) (by omega) _ _)
end Go.Proofs.YtjaepdjidfhamaaDoor
