/- WhoH -/
import Derived.Test.YtgccgacpifebbaaGreatDoorZb31
import Derived.Test.YtgccgacpifebbaaGreatDoorZb08
namespace Go.Proofs.YtgccgacpifebbaaGreatDoor
open Go.RowKit
set_option linter.unusedVariables false
def RetQR (q r : Int) (w : World) (e : Ending) (w' : World) : Prop := ∃ v1 v2,e = .returned (.tuple #[v1,v2,.bool true]) ∧ IsInt w' v1 q ∧ IsInt w' v2 r ∧ Below w.heap.size w w'
theorem pos_of_pw {K : Nat} (h : (1 : Int) < pw K) : 1 ≤ K := by
  rcases Nat.eq_zero_or_pos K with rfl | h0
  · simp [pw] at h
  · exact h0
theorem run_loadVar_int {w : World} {c : Nat} {x y z : Value} (h : Row3 w c x y z) : (loadVar 28 ⟨c,0,none⟩).run Tryz.prog w = .ok (.agg #[x,y,z]) w :=
  run_loadVar_row w c _ 28 #[x,y,z] (0,0) _ h Tryz.underlying28 rfl (by kernel_rfl)
theorem bodyPost_qr {fn : Func} {p q s : Tmp} (h : fn.results = #[.cell p 28,.cell q 28,.tmp s]) {w w' : World} {a : Act} {b1 b2 : Bool} {x1 x2 : Int} {p1 p2 : Option Addr} {l1 k1 l2 k2 : Nat} {Q R : Int} {c d : Nat} (hd : a.defers = [])
    (hp : a.tmps.getD p undef = .pointer (some ⟨c,0,none⟩)) (hq : a.tmps.getD q undef = .pointer (some ⟨d,0,none⟩)) (hs : a.tmps.getD s undef = .bool true) (hc : Row3 w' c (.bool b1) (.int .u64 x1) (.slice p1 l1 k1)) (hd' : Row3 w' d (.bool b2) (.int .u64 x2) (.slice p2 l2 k2))
    (e1 : b1 = decide (Q < 0)) (e2 : b2 = decide (R < 0)) (h1 : IsNat w' (.agg #[.int .u64 x1,.slice p1 l1 k1]) (absI Q)) (h2 : IsNat w' (.agg #[.int .u64 x2,.slice p2 l2 k2]) (absI R)) (hB : Below w.heap.size w w') : bodyPost Tryz.prog fn (RetQR Q R w) .ret a w' := by
  refine bodyPost_ret (v := .tuple #[.agg #[.bool b1,.int .u64 x1,.slice p1 l1 k1],.agg #[.bool b2,.int .u64 x2,.slice p2 l2 k2],.bool true]) ?_ hd ⟨_,_,rfl,⟨_,_,_,_,by rw [e1],h1⟩,⟨_,_,_,_,by rw [e2],h2⟩,hB⟩
  have hp' : a.tmps[p]?.getD undef = .pointer (some ⟨c,0,none⟩) := by simpa using hp
  have hq' : a.tmps[q]?.getD undef = .pointer (some ⟨d,0,none⟩) := by simpa using hq
  have hs' : a.tmps[s]?.getD undef = .bool true := by simpa using hs
  simp [results,h,hp',hq',hs',asAddr,run_loadVar_int hc,run_loadVar_int hd']
set_option maxRecDepth 100000 in
set_option maxHeartbeats 8000000 in
theorem div_same (K : Nat) (hK : K ≤ 200) (A B : Bool) (hAB : (A == B) = true) (x : Int) (p : Option Addr) (l c : Nat) (y : Int) (r : Option Addr) (m d : Nat) (n1 n2 Q Z : Int) (w : World) (hx : IsNat w (.agg #[.int .u64 x,.slice p l c]) n1) (hy : IsNat w (.agg #[.int .u64 y,.slice r m d]) n2) (h1K : n1 < pw K) (h2K : n2 < pw K) (hp1 : (1 : Int) < pw K) (hn0 : n2 ≠ 0) (hQ : Hid ((if false = true then -(n1 / n2) else n1 / n2) = Q)) (hZ : Hid ((if B = true then -(n1 % n2) else n1 % n2) = Z)) : Calls Tryz.prog 26 #[.agg #[.bool A,.int .u64 x,.slice p l c],.agg #[.bool B,.int .u64 y,.slice r m d]] w (RetQR Q Z w) := by
  have mm := fun W (g1 : IsNat W (.agg #[.int .u64 x,.slice p l c]) n1) (g2 : IsNat W (.agg #[.int .u64 y,.slice r m d]) n2) => div_any K hK _ _ _ _ W g1 g2 h1K hn0
  have fq := fun v W (g : IsNat W v (n1 / n2)) => from_int false v (n1 / n2) W g
  have fm := fun v W (g : IsNat W v (n1 % n2)) => from_int B v (n1 % n2) W g
  rw [hQ.out] at fq
  rw [hZ.out] at fm
  have hW : Below w.heap.size w ((((w.alloc (.cells #[.bool A,.int .u64 x,.slice p l c] 28)).alloc (.cells #[.bool B,.int .u64 y,.slice r m d] 28)).alloc (.cells #[.bool false,.int .u64 0,.slice none 0 0] 28)).alloc (.cells #[.bool false,.int .u64 0,.slice none 0 0] 28)) := by go_grown
  have ra := (((Row3.new w (.bool A) (.int .u64 x) (.slice p l c) w.heap.size rfl).alloc (.cells #[.bool B,.int .u64 y,.slice r m d] 28)).alloc (.cells #[.bool false,.int .u64 0,.slice none 0 0] 28)).alloc (.cells #[.bool false,.int .u64 0,.slice none 0 0] 28)
  have rb := ((Row3.new (w.alloc (.cells #[.bool A,.int .u64 x,.slice p l c] 28)) (.bool B) (.int .u64 y) (.slice r m d) (w.heap.size + 1) (by simp)).alloc (.cells #[.bool false,.int .u64 0,.slice none 0 0] 28)).alloc (.cells #[.bool false,.int .u64 0,.slice none 0 0] 28)
  have r4 := (Row3.new ((w.alloc (.cells #[.bool A,.int .u64 x,.slice p l c] 28)).alloc (.cells #[.bool B,.int .u64 y,.slice r m d] 28)) (.bool false) (.int .u64 0) (.slice none 0 0) (w.heap.size + 1 + 1) (by simp)).alloc (.cells #[.bool false,.int .u64 0,.slice none 0 0] 28)
  have r5 := Row3.new (((w.alloc (.cells #[.bool A,.int .u64 x,.slice p l c] 28)).alloc (.cells #[.bool B,.int .u64 y,.slice r m d] 28)).alloc (.cells #[.bool false,.int .u64 0,.slice none 0 0] 28)) (.bool false) (.int .u64 0) (.slice none 0 0) (w.heap.size + 1 + 1 + 1) (by simp)
  have hnx := hx.below hW
  have hny := hy.below hW
  have wsz : w.heap.size + 4 ≤ ((((w.alloc (.cells #[.bool A,.int .u64 x,.slice p l c] 28)).alloc (.cells #[.bool B,.int .u64 y,.slice r m d] 28)).alloc (.cells #[.bool false,.int .u64 0,.slice none 0 0] 28)).alloc (.cells #[.bool false,.int .u64 0,.slice none 0 0] 28)).heap.size := by have := r5.lt; omega
  go_enter Tryz.func26,Tryz.ntmps26
  go_wp2_with fail
  generalize ((((w.alloc (.cells #[.bool A,.int .u64 x,.slice p l c] 28)).alloc (.cells #[.bool B,.int .u64 y,.slice r m d] 28)).alloc (.cells #[.bool false,.int .u64 0,.slice none 0 0] 28)).alloc (.cells #[.bool false,.int .u64 0,.slice none 0 0] 28)) = W at hW ra rb r4 r5 hnx hny wsz ⊢
  obtain ⟨q,hq⟩ : ∃ q,w.heap.size = q := ⟨_,rfl⟩
  have hqw : w.heap.size ≤ q := by omega
  rw [hq] at ra rb r4 r5 wsz ⊢
  have z0 : q < q + 4 := by omega
  have z1 : q + 1 < q + 4 := by omega
  have z4 : q + 1 + 1 < q + 4 := by omega
  have z5 : q + 1 + 1 + 1 < q + 4 := by omega
  refine (mm W hnx hny).mono ?_
  rintro e wa ⟨v1,v2,rfl,hs1,hs2,hb⟩
  obtain ⟨x1,p1,l1,k1,rfl⟩ := hs1.shape
  obtain ⟨x2,p2,l2,k2,rfl⟩ := hs2.shape
  have acc := (Below.refl (q + 4) W).trans (hb.mono wsz)
  have hnyA := hny.below hb
  have wsa : q + 4 ≤ wa.heap.size := Nat.le_trans wsz acc.size
  have u1 := (Var.new wa wa.heap.size (.int .u64 x1) p1 l1 k1 rfl).alloc (.cells #[.int .u64 x2,.slice p2 l2 k2] 26)
  have u2 := Var.new (wa.alloc (.cells #[.int .u64 x1,.slice p1 l1 k1] 26)) (wa.heap.size + 1) (.int .u64 x2) p2 l2 k2 (by simp)
  have ba : Below wa.heap.size wa ((wa.alloc (.cells #[.int .u64 x1,.slice p1 l1 k1] 26)).alloc (.cells #[.int .u64 x2,.slice p2 l2 k2] 26)) := by go_grown
  replace acc := acc.trans (ba.mono wsa)
  replace hs1 := hs1.below ba
  replace hs2 := hs2.below ba
  replace hnyA := hnyA.below ba
  have h0c := u1.c0
  have h1c := u1.c1
  have h2c := u2.c0
  have h3c := u2.c1
  have a0 := (ra.below acc z0).cell0
  have a1 := (ra.below acc z0).cell1
  have a2 := (ra.below acc z0).cell2
  have b0 := (rb.below acc z1).cell0
  have b1 := (rb.below acc z1).cell1
  have b2 := (rb.below acc z1).cell2
  have c0 := (r4.below acc z4).cell0
  have c1 := (r4.below acc z4).cell1
  have c2 := (r4.below acc z4).cell2
  have d0 := (r5.below acc z5).cell0
  have d1 := (r5.below acc z5).cell1
  have d2 := (r5.below acc z5).cell2
  have f0 := (r4.below acc z4).free 0
  have f1 := (r4.below acc z4).free 1
  have f2 := (r4.below acc z4).free 2
  have g0 := (r5.below acc z5).free 0
  have g1 := (r5.below acc z5).free 1
  have g2 := (r5.below acc z5).free 2
  go_wp2_with fail
  clear a0 a1 a2 b0 b1 b2 c0 c1 c2 d0 d1 d2 f0 f1 f2 g0 g1 g2
  generalize ((wa.alloc (.cells #[.int .u64 x1,.slice p1 l1 k1] 26)).alloc (.cells #[.int .u64 x2,.slice p2 l2 k2] 26)) = wd at acc hs1 hs2 hnyA u1 u2 h0c h1c h2c h3c ⊢
  obtain ⟨s,hs⟩ : ∃ s,wa.heap.size = s := ⟨_,rfl⟩
  rw [hs] at u1 u2 wsa h0c h1c h2c h3c ⊢
  clear hs ba hb hnx hny
  have sb := rb.below acc z1
  have s4 := r4.below acc z4
  have s5 := r5.below acc z5
  have hbd := hW.trans (acc.mono (by have := hW.size; omega))
  have y1 := sb.lt
  have y4 := s4.lt
  have y5 := s5.lt
  have yu1 := u1.lt
  have yu2 := u2.lt
  have e1b : q + 1 ≠ q + 1 + 1 := by omega
  have e1b5 : q + 1 ≠ q + 1 + 1 + 1 := by omega
  have e1u : s ≠ q + 1 + 1 := by omega
  have e1u5 : s ≠ q + 1 + 1 + 1 := by omega
  have e2u : s + 1 ≠ q + 1 + 1 := by omega
  have e2u5 : s + 1 ≠ q + 1 + 1 + 1 := by omega
  have e45 : q + 1 + 1 ≠ q + 1 + 1 + 1 := by omega
  have e54 : q + 1 + 1 + 1 ≠ q + 1 + 1 := by omega
  have hq2 : w.heap.size ≤ q + 1 + 1 := by omega
  have hq3 : w.heap.size ≤ q + 1 + 1 + 1 := by omega
  clear acc ra rb r4 r5
  have acc := Below.refl wd.heap.size wd
  have hs1d : IsNat wd.drew (.agg #[.int .u64 x1,.slice p1 l1 k1]) (n1 / n2) := hs1
  have b0 := (sb.below acc y1).cell0
  have b1 := (sb.below acc y1).cell1
  have b2 := (sb.below acc y1).cell2
  have c0 := (s4.below acc y4).cell0
  have c1 := (s4.below acc y4).cell1
  have c2 := (s4.below acc y4).cell2
  have d0 := (s5.below acc y5).cell0
  have d1 := (s5.below acc y5).cell1
  have d2 := (s5.below acc y5).cell2
  have f0 := (s4.below acc y4).free 0
  have f1 := (s4.below acc y4).free 1
  have f2 := (s4.below acc y4).free 2
  have g0 := (s5.below acc y5).free 0
  have g1 := (s5.below acc y5).free 1
  have g2 := (s5.below acc y5).free 2
  have h0c := (u1.below acc yu1).c0
  have h1c := (u1.below acc yu1).c1
  have h2c := (u2.below acc yu2).c0
  have h3c := (u2.below acc yu2).c1
  go_region_held3 (fun w' => w'.cell? ⟨q + 1,0,none⟩ = some (.bool B) ∧ w'.cell? ⟨q + 1,1,none⟩ = some (.int .u64 y) ∧ w'.cell? ⟨q + 1,2,none⟩ = some (.slice r m d) ∧ w'.cell? ⟨s,0,none⟩ = some (.int .u64 x1) ∧ w'.cell? ⟨s,1,none⟩ = some (.slice p1 l1 k1) ∧ w'.cell? ⟨s + 1,0,none⟩ = some (.int .u64 x2) ∧ w'.cell? ⟨s + 1,1,none⟩ = some (.slice p2 l2 k2))
    (first | with_reducible exact ⟨(sb.below acc y1).cell0,(sb.below acc y1).cell1,(sb.below acc y1).cell2,(u1.below acc yu1).c0,(u1.below acc yu1).c1,(u2.below acc yu2).c0,(u2.below acc yu2).c1⟩ | with_reducible exact ⟨(sb.below acc y1).drew.cell0,(sb.below acc y1).drew.cell1,(sb.below acc y1).drew.cell2,(u1.below acc yu1).drew.c0,(u1.below acc yu1).drew.c1,(u2.below acc yu2).drew.c0,(u2.below acc yu2).drew.c1⟩ | with_reducible exact ⟨((((sb.below acc y1).other (a := ⟨q + 1 + 1,0,none⟩) e1b _).other (a := ⟨q + 1 + 1,1,none⟩) e1b _).other (a := ⟨q + 1 + 1,2,none⟩) e1b _).cell0,((((sb.below acc y1).other (a := ⟨q + 1 + 1,0,none⟩) e1b _).other (a := ⟨q + 1 + 1,1,none⟩) e1b _).other (a := ⟨q + 1 + 1,2,none⟩) e1b _).cell1,((((sb.below acc y1).other (a := ⟨q + 1 + 1,0,none⟩) e1b _).other (a := ⟨q + 1 + 1,1,none⟩) e1b _).other (a := ⟨q + 1 + 1,2,none⟩) e1b _).cell2,((((u1.below acc yu1).other e1u _).other e1u _).other e1u _).c0,((((u1.below acc yu1).other e1u _).other e1u _).other e1u _).c1,((((u2.below acc yu2).other e2u _).other e2u _).other e2u _).c0,((((u2.below acc yu2).other e2u _).other e2u _).other e2u _).c1⟩ | with_reducible exact ⟨((((((( sb.below acc y1).other (a := ⟨q + 1 + 1,0,none⟩) e1b _).other (a := ⟨q + 1 + 1,1,none⟩) e1b _).other (a := ⟨q + 1 + 1,2,none⟩) e1b _).other (a := ⟨q + 1 + 1 + 1,0,none⟩) e1b5 _).other (a := ⟨q + 1 + 1 + 1,1,none⟩) e1b5 _).other (a := ⟨q + 1 + 1 + 1,2,none⟩) e1b5 _).cell0,((((((( sb.below acc y1).other (a := ⟨q + 1 + 1,0,none⟩) e1b _).other (a := ⟨q + 1 + 1,1,none⟩) e1b _).other (a := ⟨q + 1 + 1,2,none⟩) e1b _).other (a := ⟨q + 1 + 1 + 1,0,none⟩) e1b5 _).other (a := ⟨q + 1 + 1 + 1,1,none⟩) e1b5 _).other (a := ⟨q + 1 + 1 + 1,2,none⟩) e1b5 _).cell1,((((((( sb.below acc y1).other (a := ⟨q + 1 + 1,0,none⟩) e1b _).other (a := ⟨q + 1 + 1,1,none⟩) e1b _).other (a := ⟨q + 1 + 1,2,none⟩) e1b _).other (a := ⟨q + 1 + 1 + 1,0,none⟩) e1b5 _).other (a := ⟨q + 1 + 1 + 1,1,none⟩) e1b5 _).other (a := ⟨q + 1 + 1 + 1,2,none⟩) e1b5 _).cell2,(((((((u1.below acc yu1).other e1u _).other e1u _).other e1u _).other e1u5 _).other e1u5 _).other e1u5 _).c0,(((((((u1.below acc yu1).other e1u _).other e1u _).other e1u _).other e1u5 _).other e1u5 _).other e1u5 _).c1,(((((((u2.below acc yu2).other e2u _).other e2u _).other e2u _).other e2u5 _).other e2u5 _).other e2u5 _).c0,(((((((u2.below acc yu2).other e2u _).other e2u _).other e2u _).other e2u5 _).other e2u5 _).other e2u5 _).c1⟩)
    (first
      | (go_at_call 23; (first | (have q1 := fq _ wd hs1; (with_reducible refine q1.mono ?_); clear q1) | (have q1 := fq _ wd.drew hs1d; (with_reducible refine q1.mono ?_); clear q1)); rintro e we ⟨v3,rfl,⟨x3,p3,l3,k3,rfl,hn3⟩,hb⟩; (first | replace hb : Below wd.heap.size wd we := hb | replace hb := below_undrew (w := wd) hb); replace acc := acc.trans (hb.mono acc.size); have hs2e := hs2.below hb; have b0 := (sb.below acc y1).cell0; have b1 := (sb.below acc y1).cell1; have b2 := (sb.below acc y1).cell2; have c0 := (s4.below acc y4).cell0; have c1 := (s4.below acc y4).cell1; have c2 := (s4.below acc y4).cell2; have d0 := (s5.below acc y5).cell0; have d1 := (s5.below acc y5).cell1; have d2 := (s5.below acc y5).cell2; have f0 := (s4.below acc y4).free 0; have f1 := (s4.below acc y4).free 1; have f2 := (s4.below acc y4).free 2; have g0 := (s5.below acc y5).free 0; have g1 := (s5.below acc y5).free 1; have g2 := (s5.below acc y5).free 2; have h0c := (u1.below acc yu1).c0; have h1c := (u1.below acc yu1).c1; have h2c := (u2.below acc yu2).c0; have h3c := (u2.below acc yu2).c1; clear hb)
      | (go_at_call 23; (first | (have q1 := fm _ we hs2e; (with_reducible refine q1.mono ?_); clear q1) | (have q1 := fm _ we.drew hs2e.drew; (with_reducible refine q1.mono ?_); clear q1)); rintro e wf ⟨v4,rfl,⟨x4,p4,l4,k4,rfl,hn4⟩,hb⟩; (first | replace hb : Below we.heap.size we wf := hb | replace hb := below_undrew (w := we) hb); replace acc := acc.trans (hb.mono acc.size); have hn3e := hn3.below hb; have b0 := (sb.below acc y1).cell0; have b1 := (sb.below acc y1).cell1; have b2 := (sb.below acc y1).cell2; have c0 := (s4.below acc y4).cell0; have c1 := (s4.below acc y4).cell1; have c2 := (s4.below acc y4).cell2; have d0 := (s5.below acc y5).cell0; have d1 := (s5.below acc y5).cell1; have d2 := (s5.below acc y5).cell2; have f0 := (s4.below acc y4).free 0; have f1 := (s4.below acc y4).free 1; have f2 := (s4.below acc y4).free 2; have g0 := (s5.below acc y5).free 0; have g1 := (s5.below acc y5).free 1; have g2 := (s5.below acc y5).free 2; have h0c := (u1.below acc yu1).c0; have h1c := (u1.below acc yu1).c1; have h2c := (u2.below acc yu2).c0; have h3c := (u2.below acc yu2).c1; clear hb))
  all_goals
    have t4 := s4.below acc y4
    have t5 := s5.below acc y5
    have g4 := t4.set3 (.bool (decide (Q < 0))) (.int .u64 x3) (.slice p3 l3 k3)
    have g5 := ((t5.other (a := ⟨q + 1 + 1,0,none⟩) e54 (.bool (decide (Q < 0)))).other (a := ⟨q + 1 + 1,1,none⟩) e54 (.int .u64 x3)).other (a := ⟨q + 1 + 1,2,none⟩) e54 (.slice p3 l3 k3)
    have g45 := ((g4.other (a := ⟨q + 1 + 1 + 1,0,none⟩) e45 (.bool (decide (Z < 0)))).other (a := ⟨q + 1 + 1 + 1,1,none⟩) e45 (.int .u64 x4)).other (a := ⟨q + 1 + 1 + 1,2,none⟩) e45 (.slice p4 l4 k4)
    have g55 := g5.set3 (.bool (decide (Z < 0))) (.int .u64 x4) (.slice p4 l4 k4)
    have n3 := (hn3e.row3 t4 (.bool (decide (Q < 0))) (.int .u64 x3) (.slice p3 l3 k3)).row3 g5 (.bool (decide (Z < 0))) (.int .u64 x4) (.slice p4 l4 k4)
    have n4 := (hn4.row3 t4 (.bool (decide (Q < 0))) (.int .u64 x3) (.slice p3 l3 k3)).row3 g5 (.bool (decide (Z < 0))) (.int .u64 x4) (.slice p4 l4 k4)
    have hbf := hbd.trans (acc.mono hbd.size)
    have hB4 := ((hbf.setCell (p := ⟨q + 1 + 1,0,none⟩) hq2 (.bool (decide (Q < 0)))).setCell (p := ⟨q + 1 + 1,1,none⟩) hq2 (.int .u64 x3)).setCell (p := ⟨q + 1 + 1,2,none⟩) hq2 (.slice p3 l3 k3)
    have hB5 := ((hB4.setCell (p := ⟨q + 1 + 1 + 1,0,none⟩) hq3 (.bool (decide (Z < 0)))).setCell (p := ⟨q + 1 + 1 + 1,1,none⟩) hq3 (.int .u64 x4)).setCell (p := ⟨q + 1 + 1 + 1,2,none⟩) hq3 (.slice p4 l4 k4)
    go_wp2_with fail
    exact bodyPost_qr Tryz.results26 rfl rfl rfl rfl g45 g55 rfl rfl n3 n4 hB5
set_option maxRecDepth 100000 in
set_option maxHeartbeats 8000000 in
theorem div_even (K : Nat) (hK : K ≤ 200) (A B : Bool) (hAB : (A == B) = false) (x : Int) (p : Option Addr) (l c : Nat) (y : Int) (r : Option Addr) (m d : Nat) (n1 n2 Q Z : Int) (w : World) (hx : IsNat w (.agg #[.int .u64 x,.slice p l c]) n1) (hy : IsNat w (.agg #[.int .u64 y,.slice r m d]) n2) (h1K : n1 < pw K) (h2K : n2 < pw K) (hp1 : (1 : Int) < pw K) (hn0 : n2 ≠ 0) (h0 : n1 % n2 = 0) (hQ : Hid ((if true = true then -(n1 / n2) else n1 / n2) = Q)) (hZ : Hid ((if B = true then -(n1 % n2) else n1 % n2) = Z)) : Calls Tryz.prog 26 #[.agg #[.bool A,.int .u64 x,.slice p l c],.agg #[.bool B,.int .u64 y,.slice r m d]] w (RetQR Q Z w) := by
  have mm := fun W (g1 : IsNat W (.agg #[.int .u64 x,.slice p l c]) n1) (g2 : IsNat W (.agg #[.int .u64 y,.slice r m d]) n2) => div_any K hK _ _ _ _ W g1 g2 h1K hn0
  have fq := fun v W (g : IsNat W v (n1 / n2)) => from_int true v (n1 / n2) W g
  have fm := fun v W (g : IsNat W v (n1 % n2)) => from_int B v (n1 % n2) W g
  rw [hQ.out] at fq
  rw [hZ.out] at fm
  have hW : Below w.heap.size w ((((w.alloc (.cells #[.bool A,.int .u64 x,.slice p l c] 28)).alloc (.cells #[.bool B,.int .u64 y,.slice r m d] 28)).alloc (.cells #[.bool false,.int .u64 0,.slice none 0 0] 28)).alloc (.cells #[.bool false,.int .u64 0,.slice none 0 0] 28)) := by go_grown
  have ra := (((Row3.new w (.bool A) (.int .u64 x) (.slice p l c) w.heap.size rfl).alloc (.cells #[.bool B,.int .u64 y,.slice r m d] 28)).alloc (.cells #[.bool false,.int .u64 0,.slice none 0 0] 28)).alloc (.cells #[.bool false,.int .u64 0,.slice none 0 0] 28)
  have rb := ((Row3.new (w.alloc (.cells #[.bool A,.int .u64 x,.slice p l c] 28)) (.bool B) (.int .u64 y) (.slice r m d) (w.heap.size + 1) (by simp)).alloc (.cells #[.bool false,.int .u64 0,.slice none 0 0] 28)).alloc (.cells #[.bool false,.int .u64 0,.slice none 0 0] 28)
  have r4 := (Row3.new ((w.alloc (.cells #[.bool A,.int .u64 x,.slice p l c] 28)).alloc (.cells #[.bool B,.int .u64 y,.slice r m d] 28)) (.bool false) (.int .u64 0) (.slice none 0 0) (w.heap.size + 1 + 1) (by simp)).alloc (.cells #[.bool false,.int .u64 0,.slice none 0 0] 28)
  have r5 := Row3.new (((w.alloc (.cells #[.bool A,.int .u64 x,.slice p l c] 28)).alloc (.cells #[.bool B,.int .u64 y,.slice r m d] 28)).alloc (.cells #[.bool false,.int .u64 0,.slice none 0 0] 28)) (.bool false) (.int .u64 0) (.slice none 0 0) (w.heap.size + 1 + 1 + 1) (by simp)
  have hnx := hx.below hW
  have hny := hy.below hW
  have wsz : w.heap.size + 4 ≤ ((((w.alloc (.cells #[.bool A,.int .u64 x,.slice p l c] 28)).alloc (.cells #[.bool B,.int .u64 y,.slice r m d] 28)).alloc (.cells #[.bool false,.int .u64 0,.slice none 0 0] 28)).alloc (.cells #[.bool false,.int .u64 0,.slice none 0 0] 28)).heap.size := by have := r5.lt; omega
  go_enter Tryz.func26,Tryz.ntmps26
  go_wp2_with fail
  generalize ((((w.alloc (.cells #[.bool A,.int .u64 x,.slice p l c] 28)).alloc (.cells #[.bool B,.int .u64 y,.slice r m d] 28)).alloc (.cells #[.bool false,.int .u64 0,.slice none 0 0] 28)).alloc (.cells #[.bool false,.int .u64 0,.slice none 0 0] 28)) = W at hW ra rb r4 r5 hnx hny wsz ⊢
  obtain ⟨q,hq⟩ : ∃ q,w.heap.size = q := ⟨_,rfl⟩
  have hqw : w.heap.size ≤ q := by omega
  rw [hq] at ra rb r4 r5 wsz ⊢
  have z0 : q < q + 4 := by omega
  have z1 : q + 1 < q + 4 := by omega
  have z4 : q + 1 + 1 < q + 4 := by omega
  have z5 : q + 1 + 1 + 1 < q + 4 := by omega
  refine (mm W hnx hny).mono ?_
  rintro e wa ⟨v1,v2,rfl,hs1,hs2,hb⟩
  obtain ⟨x1,p1,l1,k1,rfl⟩ := hs1.shape
  obtain ⟨x2,p2,l2,k2,rfl⟩ := hs2.shape
  have acc := (Below.refl (q + 4) W).trans (hb.mono wsz)
  have hnyA := hny.below hb
  have wsa : q + 4 ≤ wa.heap.size := Nat.le_trans wsz acc.size
  have u1 := (Var.new wa wa.heap.size (.int .u64 x1) p1 l1 k1 rfl).alloc (.cells #[.int .u64 x2,.slice p2 l2 k2] 26)
  have u2 := Var.new (wa.alloc (.cells #[.int .u64 x1,.slice p1 l1 k1] 26)) (wa.heap.size + 1) (.int .u64 x2) p2 l2 k2 (by simp)
  have ba : Below wa.heap.size wa ((wa.alloc (.cells #[.int .u64 x1,.slice p1 l1 k1] 26)).alloc (.cells #[.int .u64 x2,.slice p2 l2 k2] 26)) := by go_grown
  replace acc := acc.trans (ba.mono wsa)
  replace hs1 := hs1.below ba
  replace hs2 := hs2.below ba
  replace hnyA := hnyA.below ba
  have h0c := u1.c0
  have h1c := u1.c1
  have h2c := u2.c0
  have h3c := u2.c1
  have a0 := (ra.below acc z0).cell0
  have a1 := (ra.below acc z0).cell1
  have a2 := (ra.below acc z0).cell2
  have b0 := (rb.below acc z1).cell0
  have b1 := (rb.below acc z1).cell1
  have b2 := (rb.below acc z1).cell2
  have c0 := (r4.below acc z4).cell0
  have c1 := (r4.below acc z4).cell1
  have c2 := (r4.below acc z4).cell2
  have d0 := (r5.below acc z5).cell0
  have d1 := (r5.below acc z5).cell1
  have d2 := (r5.below acc z5).cell2
  have f0 := (r4.below acc z4).free 0
  have f1 := (r4.below acc z4).free 1
  have f2 := (r4.below acc z4).free 2
  have g0 := (r5.below acc z5).free 0
  have g1 := (r5.below acc z5).free 1
  have g2 := (r5.below acc z5).free 2
  go_wp2_with fail
  clear a0 a1 a2 b0 b1 b2 c0 c1 c2 d0 d1 d2 f0 f1 f2 g0 g1 g2
  generalize ((wa.alloc (.cells #[.int .u64 x1,.slice p1 l1 k1] 26)).alloc (.cells #[.int .u64 x2,.slice p2 l2 k2] 26)) = wv at acc hs1 hs2 hnyA u1 u2 h0c h1c h2c h3c ⊢
  obtain ⟨s,hs⟩ : ∃ s,wa.heap.size = s := ⟨_,rfl⟩
  rw [hs] at u1 u2 wsa h0c h1c h2c h3c ⊢
  clear hs ba hb hnx hny
  refine (bits_nat _ (n1 % n2) wv hs2).mono ?_
  rintro e wd ⟨⟨kk,rfl,hkk⟩,hb8⟩
  rw [h0] at hkk
  obtain rfl := bits_zero' hkk
  replace acc := acc.trans (hb8.mono (by have := u1.lt; omega))
  replace hs1 := hs1.below hb8
  replace hs2 := hs2.below hb8
  replace hnyA := hnyA.below hb8
  replace u1 := u1.below hb8 u1.lt
  replace u2 := u2.below hb8 u2.lt
  clear hkk hb8 h0c h1c h2c h3c
  have h0c := u1.c0
  have h1c := u1.c1
  have h2c := u2.c0
  have h3c := u2.c1
  have a0 := (ra.below acc z0).cell0
  have a1 := (ra.below acc z0).cell1
  have a2 := (ra.below acc z0).cell2
  have b0 := (rb.below acc z1).cell0
  have b1 := (rb.below acc z1).cell1
  have b2 := (rb.below acc z1).cell2
  have c0 := (r4.below acc z4).cell0
  have c1 := (r4.below acc z4).cell1
  have c2 := (r4.below acc z4).cell2
  have d0 := (r5.below acc z5).cell0
  have d1 := (r5.below acc z5).cell1
  have d2 := (r5.below acc z5).cell2
  have f0 := (r4.below acc z4).free 0
  have f1 := (r4.below acc z4).free 1
  have f2 := (r4.below acc z4).free 2
  have g0 := (r5.below acc z5).free 0
  have g1 := (r5.below acc z5).free 1
  have g2 := (r5.below acc z5).free 2
  go_wp2_with fail
  clear a0 a1 a2 b0 b1 b2 c0 c1 c2 d0 d1 d2 f0 f1 f2 g0 g1 g2
  clear h0c h1c h2c h3c
  have sb := rb.below acc z1
  have s4 := r4.below acc z4
  have s5 := r5.below acc z5
  have hbd := hW.trans (acc.mono (by have := hW.size; omega))
  have y1 := sb.lt
  have y4 := s4.lt
  have y5 := s5.lt
  have yu1 := u1.lt
  have yu2 := u2.lt
  have e1b : q + 1 ≠ q + 1 + 1 := by omega
  have e1b5 : q + 1 ≠ q + 1 + 1 + 1 := by omega
  have e1u : s ≠ q + 1 + 1 := by omega
  have e1u5 : s ≠ q + 1 + 1 + 1 := by omega
  have e2u : s + 1 ≠ q + 1 + 1 := by omega
  have e2u5 : s + 1 ≠ q + 1 + 1 + 1 := by omega
  have e45 : q + 1 + 1 ≠ q + 1 + 1 + 1 := by omega
  have e54 : q + 1 + 1 + 1 ≠ q + 1 + 1 := by omega
  have hq2 : w.heap.size ≤ q + 1 + 1 := by omega
  have hq3 : w.heap.size ≤ q + 1 + 1 + 1 := by omega
  clear acc ra rb r4 r5
  have acc := Below.refl wd.heap.size wd
  have hs1d : IsNat wd.drew (.agg #[.int .u64 x1,.slice p1 l1 k1]) (n1 / n2) := hs1
  have b0 := (sb.below acc y1).cell0
  have b1 := (sb.below acc y1).cell1
  have b2 := (sb.below acc y1).cell2
  have c0 := (s4.below acc y4).cell0
  have c1 := (s4.below acc y4).cell1
  have c2 := (s4.below acc y4).cell2
  have d0 := (s5.below acc y5).cell0
  have d1 := (s5.below acc y5).cell1
  have d2 := (s5.below acc y5).cell2
  have f0 := (s4.below acc y4).free 0
  have f1 := (s4.below acc y4).free 1
  have f2 := (s4.below acc y4).free 2
  have g0 := (s5.below acc y5).free 0
  have g1 := (s5.below acc y5).free 1
  have g2 := (s5.below acc y5).free 2
  have h0c := (u1.below acc yu1).c0
  have h1c := (u1.below acc yu1).c1
  have h2c := (u2.below acc yu2).c0
  have h3c := (u2.below acc yu2).c1
  go_region_held3 (fun w' => w'.cell? ⟨q + 1,0,none⟩ = some (.bool B) ∧ w'.cell? ⟨q + 1,1,none⟩ = some (.int .u64 y) ∧ w'.cell? ⟨q + 1,2,none⟩ = some (.slice r m d) ∧ w'.cell? ⟨s,0,none⟩ = some (.int .u64 x1) ∧ w'.cell? ⟨s,1,none⟩ = some (.slice p1 l1 k1) ∧ w'.cell? ⟨s + 1,0,none⟩ = some (.int .u64 x2) ∧ w'.cell? ⟨s + 1,1,none⟩ = some (.slice p2 l2 k2))
    (first | with_reducible exact ⟨(sb.below acc y1).cell0,(sb.below acc y1).cell1,(sb.below acc y1).cell2,(u1.below acc yu1).c0,(u1.below acc yu1).c1,(u2.below acc yu2).c0,(u2.below acc yu2).c1⟩ | with_reducible exact ⟨(sb.below acc y1).drew.cell0,(sb.below acc y1).drew.cell1,(sb.below acc y1).drew.cell2,(u1.below acc yu1).drew.c0,(u1.below acc yu1).drew.c1,(u2.below acc yu2).drew.c0,(u2.below acc yu2).drew.c1⟩ | with_reducible exact ⟨((((sb.below acc y1).other (a := ⟨q + 1 + 1,0,none⟩) e1b _).other (a := ⟨q + 1 + 1,1,none⟩) e1b _).other (a := ⟨q + 1 + 1,2,none⟩) e1b _).cell0,((((sb.below acc y1).other (a := ⟨q + 1 + 1,0,none⟩) e1b _).other (a := ⟨q + 1 + 1,1,none⟩) e1b _).other (a := ⟨q + 1 + 1,2,none⟩) e1b _).cell1,((((sb.below acc y1).other (a := ⟨q + 1 + 1,0,none⟩) e1b _).other (a := ⟨q + 1 + 1,1,none⟩) e1b _).other (a := ⟨q + 1 + 1,2,none⟩) e1b _).cell2,((((u1.below acc yu1).other e1u _).other e1u _).other e1u _).c0,((((u1.below acc yu1).other e1u _).other e1u _).other e1u _).c1,((((u2.below acc yu2).other e2u _).other e2u _).other e2u _).c0,((((u2.below acc yu2).other e2u _).other e2u _).other e2u _).c1⟩ | with_reducible exact ⟨((((((( sb.below acc y1).other (a := ⟨q + 1 + 1,0,none⟩) e1b _).other (a := ⟨q + 1 + 1,1,none⟩) e1b _).other (a := ⟨q + 1 + 1,2,none⟩) e1b _).other (a := ⟨q + 1 + 1 + 1,0,none⟩) e1b5 _).other (a := ⟨q + 1 + 1 + 1,1,none⟩) e1b5 _).other (a := ⟨q + 1 + 1 + 1,2,none⟩) e1b5 _).cell0,((((((( sb.below acc y1).other (a := ⟨q + 1 + 1,0,none⟩) e1b _).other (a := ⟨q + 1 + 1,1,none⟩) e1b _).other (a := ⟨q + 1 + 1,2,none⟩) e1b _).other (a := ⟨q + 1 + 1 + 1,0,none⟩) e1b5 _).other (a := ⟨q + 1 + 1 + 1,1,none⟩) e1b5 _).other (a := ⟨q + 1 + 1 + 1,2,none⟩) e1b5 _).cell1,((((((( sb.below acc y1).other (a := ⟨q + 1 + 1,0,none⟩) e1b _).other (a := ⟨q + 1 + 1,1,none⟩) e1b _).other (a := ⟨q + 1 + 1,2,none⟩) e1b _).other (a := ⟨q + 1 + 1 + 1,0,none⟩) e1b5 _).other (a := ⟨q + 1 + 1 + 1,1,none⟩) e1b5 _).other (a := ⟨q + 1 + 1 + 1,2,none⟩) e1b5 _).cell2,(((((((u1.below acc yu1).other e1u _).other e1u _).other e1u _).other e1u5 _).other e1u5 _).other e1u5 _).c0,(((((((u1.below acc yu1).other e1u _).other e1u _).other e1u _).other e1u5 _).other e1u5 _).other e1u5 _).c1,(((((((u2.below acc yu2).other e2u _).other e2u _).other e2u _).other e2u5 _).other e2u5 _).other e2u5 _).c0,(((((((u2.below acc yu2).other e2u _).other e2u _).other e2u _).other e2u5 _).other e2u5 _).other e2u5 _).c1⟩)
    (first
      | (go_at_call 23; (first | (have q1 := fq _ wd hs1; (with_reducible refine q1.mono ?_); clear q1) | (have q1 := fq _ wd.drew hs1d; (with_reducible refine q1.mono ?_); clear q1)); rintro e we ⟨v3,rfl,⟨x3,p3,l3,k3,rfl,hn3⟩,hb⟩; (first | replace hb : Below wd.heap.size wd we := hb | replace hb := below_undrew (w := wd) hb); replace acc := acc.trans (hb.mono acc.size); have hs2e := hs2.below hb; have b0 := (sb.below acc y1).cell0; have b1 := (sb.below acc y1).cell1; have b2 := (sb.below acc y1).cell2; have c0 := (s4.below acc y4).cell0; have c1 := (s4.below acc y4).cell1; have c2 := (s4.below acc y4).cell2; have d0 := (s5.below acc y5).cell0; have d1 := (s5.below acc y5).cell1; have d2 := (s5.below acc y5).cell2; have f0 := (s4.below acc y4).free 0; have f1 := (s4.below acc y4).free 1; have f2 := (s4.below acc y4).free 2; have g0 := (s5.below acc y5).free 0; have g1 := (s5.below acc y5).free 1; have g2 := (s5.below acc y5).free 2; have h0c := (u1.below acc yu1).c0; have h1c := (u1.below acc yu1).c1; have h2c := (u2.below acc yu2).c0; have h3c := (u2.below acc yu2).c1; clear hb)
      | (go_at_call 23; (first | (have q1 := fm _ we hs2e; (with_reducible refine q1.mono ?_); clear q1) | (have q1 := fm _ we.drew hs2e.drew; (with_reducible refine q1.mono ?_); clear q1)); rintro e wf ⟨v4,rfl,⟨x4,p4,l4,k4,rfl,hn4⟩,hb⟩; (first | replace hb : Below we.heap.size we wf := hb | replace hb := below_undrew (w := we) hb); replace acc := acc.trans (hb.mono acc.size); have hn3e := hn3.below hb; have b0 := (sb.below acc y1).cell0; have b1 := (sb.below acc y1).cell1; have b2 := (sb.below acc y1).cell2; have c0 := (s4.below acc y4).cell0; have c1 := (s4.below acc y4).cell1; have c2 := (s4.below acc y4).cell2; have d0 := (s5.below acc y5).cell0; have d1 := (s5.below acc y5).cell1; have d2 := (s5.below acc y5).cell2; have f0 := (s4.below acc y4).free 0; have f1 := (s4.below acc y4).free 1; have f2 := (s4.below acc y4).free 2; have g0 := (s5.below acc y5).free 0; have g1 := (s5.below acc y5).free 1; have g2 := (s5.below acc y5).free 2; have h0c := (u1.below acc yu1).c0; have h1c := (u1.below acc yu1).c1; have h2c := (u2.below acc yu2).c0; have h3c := (u2.below acc yu2).c1; clear hb))
  all_goals
    have t4 := s4.below acc y4
    have t5 := s5.below acc y5
    have g4 := t4.set3 (.bool (decide (Q < 0))) (.int .u64 x3) (.slice p3 l3 k3)
    have g5 := ((t5.other (a := ⟨q + 1 + 1,0,none⟩) e54 (.bool (decide (Q < 0)))).other (a := ⟨q + 1 + 1,1,none⟩) e54 (.int .u64 x3)).other (a := ⟨q + 1 + 1,2,none⟩) e54 (.slice p3 l3 k3)
    have g45 := ((g4.other (a := ⟨q + 1 + 1 + 1,0,none⟩) e45 (.bool (decide (Z < 0)))).other (a := ⟨q + 1 + 1 + 1,1,none⟩) e45 (.int .u64 x4)).other (a := ⟨q + 1 + 1 + 1,2,none⟩) e45 (.slice p4 l4 k4)
    have g55 := g5.set3 (.bool (decide (Z < 0))) (.int .u64 x4) (.slice p4 l4 k4)
    have n3 := (hn3e.row3 t4 (.bool (decide (Q < 0))) (.int .u64 x3) (.slice p3 l3 k3)).row3 g5 (.bool (decide (Z < 0))) (.int .u64 x4) (.slice p4 l4 k4)
    have n4 := (hn4.row3 t4 (.bool (decide (Q < 0))) (.int .u64 x3) (.slice p3 l3 k3)).row3 g5 (.bool (decide (Z < 0))) (.int .u64 x4) (.slice p4 l4 k4)
    have hbf := hbd.trans (acc.mono hbd.size)
    have hB4 := ((hbf.setCell (p := ⟨q + 1 + 1,0,none⟩) hq2 (.bool (decide (Q < 0)))).setCell (p := ⟨q + 1 + 1,1,none⟩) hq2 (.int .u64 x3)).setCell (p := ⟨q + 1 + 1,2,none⟩) hq2 (.slice p3 l3 k3)
    have hB5 := ((hB4.setCell (p := ⟨q + 1 + 1 + 1,0,none⟩) hq3 (.bool (decide (Z < 0)))).setCell (p := ⟨q + 1 + 1 + 1,1,none⟩) hq3 (.int .u64 x4)).setCell (p := ⟨q + 1 + 1 + 1,2,none⟩) hq3 (.slice p4 l4 k4)
    go_wp2_with fail
    exact bodyPost_qr Tryz.results26 rfl rfl rfl rfl g45 g55 rfl rfl n3 n4 hB5
set_option maxRecDepth 100000 in
set_option maxHeartbeats 8000000 in
theorem div_more (K : Nat) (hK : K ≤ 200) (A B : Bool) (hAB : (A == B) = false) (x : Int) (p : Option Addr) (l c : Nat) (y : Int) (r : Option Addr) (m d : Nat) (n1 n2 Q Z : Int) (w : World) (hx : IsNat w (.agg #[.int .u64 x,.slice p l c]) n1) (hy : IsNat w (.agg #[.int .u64 y,.slice r m d]) n2) (h1K : n1 < pw K) (h2K : n2 < pw K) (hp1 : (1 : Int) < pw K) (hn0 : n2 ≠ 0) (h0 : 0 < n1 % n2) (hQ : Hid ((if true = true then -(n1 / n2 + 1) else n1 / n2 + 1) = Q)) (hZ : Hid ((if B = true then -(n2 - n1 % n2) else n2 - n1 % n2) = Z)) : Calls Tryz.prog 26 #[.agg #[.bool A,.int .u64 x,.slice p l c],.agg #[.bool B,.int .u64 y,.slice r m d]] w (RetQR Q Z w) := by
  have mm := fun W (g1 : IsNat W (.agg #[.int .u64 x,.slice p l c]) n1) (g2 : IsNat W (.agg #[.int .u64 y,.slice r m d]) n2) => div_any K hK _ _ _ _ W g1 g2 h1K hn0
  have fq := fun v W (g : IsNat W v (n1 / n2 + 1)) => from_int true v (n1 / n2 + 1) W g
  have fm := fun v W (g : IsNat W v (n2 - n1 % n2)) => from_int B v (n2 - n1 % n2) W g
  rw [hQ.out] at fq
  rw [hZ.out] at fm
  have hW : Below w.heap.size w ((((w.alloc (.cells #[.bool A,.int .u64 x,.slice p l c] 28)).alloc (.cells #[.bool B,.int .u64 y,.slice r m d] 28)).alloc (.cells #[.bool false,.int .u64 0,.slice none 0 0] 28)).alloc (.cells #[.bool false,.int .u64 0,.slice none 0 0] 28)) := by go_grown
  have ra := (((Row3.new w (.bool A) (.int .u64 x) (.slice p l c) w.heap.size rfl).alloc (.cells #[.bool B,.int .u64 y,.slice r m d] 28)).alloc (.cells #[.bool false,.int .u64 0,.slice none 0 0] 28)).alloc (.cells #[.bool false,.int .u64 0,.slice none 0 0] 28)
  have rb := ((Row3.new (w.alloc (.cells #[.bool A,.int .u64 x,.slice p l c] 28)) (.bool B) (.int .u64 y) (.slice r m d) (w.heap.size + 1) (by simp)).alloc (.cells #[.bool false,.int .u64 0,.slice none 0 0] 28)).alloc (.cells #[.bool false,.int .u64 0,.slice none 0 0] 28)
  have r4 := (Row3.new ((w.alloc (.cells #[.bool A,.int .u64 x,.slice p l c] 28)).alloc (.cells #[.bool B,.int .u64 y,.slice r m d] 28)) (.bool false) (.int .u64 0) (.slice none 0 0) (w.heap.size + 1 + 1) (by simp)).alloc (.cells #[.bool false,.int .u64 0,.slice none 0 0] 28)
  have r5 := Row3.new (((w.alloc (.cells #[.bool A,.int .u64 x,.slice p l c] 28)).alloc (.cells #[.bool B,.int .u64 y,.slice r m d] 28)).alloc (.cells #[.bool false,.int .u64 0,.slice none 0 0] 28)) (.bool false) (.int .u64 0) (.slice none 0 0) (w.heap.size + 1 + 1 + 1) (by simp)
  have hnx := hx.below hW
  have hny := hy.below hW
  have wsz : w.heap.size + 4 ≤ ((((w.alloc (.cells #[.bool A,.int .u64 x,.slice p l c] 28)).alloc (.cells #[.bool B,.int .u64 y,.slice r m d] 28)).alloc (.cells #[.bool false,.int .u64 0,.slice none 0 0] 28)).alloc (.cells #[.bool false,.int .u64 0,.slice none 0 0] 28)).heap.size := by have := r5.lt; omega
  go_enter Tryz.func26,Tryz.ntmps26
  go_wp2_with fail
  generalize ((((w.alloc (.cells #[.bool A,.int .u64 x,.slice p l c] 28)).alloc (.cells #[.bool B,.int .u64 y,.slice r m d] 28)).alloc (.cells #[.bool false,.int .u64 0,.slice none 0 0] 28)).alloc (.cells #[.bool false,.int .u64 0,.slice none 0 0] 28)) = W at hW ra rb r4 r5 hnx hny wsz ⊢
  obtain ⟨q,hq⟩ : ∃ q,w.heap.size = q := ⟨_,rfl⟩
  have hqw : w.heap.size ≤ q := by omega
  rw [hq] at ra rb r4 r5 wsz ⊢
  have z0 : q < q + 4 := by omega
  have z1 : q + 1 < q + 4 := by omega
  have z4 : q + 1 + 1 < q + 4 := by omega
  have z5 : q + 1 + 1 + 1 < q + 4 := by omega
  refine (mm W hnx hny).mono ?_
  rintro e wa ⟨v1,v2,rfl,hs1,hs2,hb⟩
  obtain ⟨xa,pa,la,ka,rfl⟩ := hs1.shape
  obtain ⟨xb,pb,lb,kb,rfl⟩ := hs2.shape
  have acc := (Below.refl (q + 4) W).trans (hb.mono wsz)
  have hnyA := hny.below hb
  have wsa : q + 4 ≤ wa.heap.size := Nat.le_trans wsz acc.size
  have u1 := (Var.new wa wa.heap.size (.int .u64 xa) pa la ka rfl).alloc (.cells #[.int .u64 xb,.slice pb lb kb] 26)
  have u2 := Var.new (wa.alloc (.cells #[.int .u64 xa,.slice pa la ka] 26)) (wa.heap.size + 1) (.int .u64 xb) pb lb kb (by simp)
  have ba : Below wa.heap.size wa ((wa.alloc (.cells #[.int .u64 xa,.slice pa la ka] 26)).alloc (.cells #[.int .u64 xb,.slice pb lb kb] 26)) := by go_grown
  replace acc := acc.trans (ba.mono wsa)
  replace hs1 := hs1.below ba
  replace hs2 := hs2.below ba
  replace hnyA := hnyA.below ba
  have h0c := u1.c0
  have h1c := u1.c1
  have h2c := u2.c0
  have h3c := u2.c1
  have a0 := (ra.below acc z0).cell0
  have a1 := (ra.below acc z0).cell1
  have a2 := (ra.below acc z0).cell2
  have b0 := (rb.below acc z1).cell0
  have b1 := (rb.below acc z1).cell1
  have b2 := (rb.below acc z1).cell2
  have c0 := (r4.below acc z4).cell0
  have c1 := (r4.below acc z4).cell1
  have c2 := (r4.below acc z4).cell2
  have d0 := (r5.below acc z5).cell0
  have d1 := (r5.below acc z5).cell1
  have d2 := (r5.below acc z5).cell2
  have f0 := (r4.below acc z4).free 0
  have f1 := (r4.below acc z4).free 1
  have f2 := (r4.below acc z4).free 2
  have g0 := (r5.below acc z5).free 0
  have g1 := (r5.below acc z5).free 1
  have g2 := (r5.below acc z5).free 2
  go_wp2_with fail
  clear a0 a1 a2 b0 b1 b2 c0 c1 c2 d0 d1 d2 f0 f1 f2 g0 g1 g2
  generalize ((wa.alloc (.cells #[.int .u64 xa,.slice pa la ka] 26)).alloc (.cells #[.int .u64 xb,.slice pb lb kb] 26)) = wv at acc hs1 hs2 hnyA u1 u2 h0c h1c h2c h3c ⊢
  obtain ⟨s,hs⟩ : ∃ s,wa.heap.size = s := ⟨_,rfl⟩
  rw [hs] at u1 u2 wsa h0c h1c h2c h3c ⊢
  clear hs ba hb hnx hny
  refine (bits_nat _ (n1 % n2) wv hs2).mono ?_
  rintro e w8 ⟨⟨kk,rfl,hkk⟩,hb8⟩
  have hkp : ¬ ((kk : Int) ≤ 0) := by
    have := bits_pos' hkk h0
    omega
  have hkq : (0 : Int) < (kk : Int) := by omega
  have hkr : 0 < kk := by omega
  replace acc := acc.trans (hb8.mono (by have := u1.lt; omega))
  replace hs1 := hs1.below hb8
  replace hs2 := hs2.below hb8
  replace hnyA := hnyA.below hb8
  replace u1 := u1.below hb8 u1.lt
  replace u2 := u2.below hb8 u2.lt
  clear hkk hb8 h0c h1c h2c h3c
  have h0c := u1.c0
  have h1c := u1.c1
  have h2c := u2.c0
  have h3c := u2.c1
  have a0 := (ra.below acc z0).cell0
  have a1 := (ra.below acc z0).cell1
  have a2 := (ra.below acc z0).cell2
  have b0 := (rb.below acc z1).cell0
  have b1 := (rb.below acc z1).cell1
  have b2 := (rb.below acc z1).cell2
  have c0 := (r4.below acc z4).cell0
  have c1 := (r4.below acc z4).cell1
  have c2 := (r4.below acc z4).cell2
  have d0 := (r5.below acc z5).cell0
  have d1 := (r5.below acc z5).cell1
  have d2 := (r5.below acc z5).cell2
  have f0 := (r4.below acc z4).free 0
  have f1 := (r4.below acc z4).free 1
  have f2 := (r4.below acc z4).free 2
  have g0 := (r5.below acc z5).free 0
  have g1 := (r5.below acc z5).free 1
  have g2 := (r5.below acc z5).free 2
  have m0 : n1 % n2 < n2 := by
    have h1 := hy.nonneg
    exact Int.emod_lt_of_pos _ (by omega)
  have dK : n1 / n2 < pw K := by
    have h1 := hx.nonneg
    have h2 := hy.nonneg
    exact Int.lt_of_le_of_lt (Int.ediv_le_self n2 h1) h1K
  have ad := fun v W (g1 : IsNat W v (n1 / n2)) (g2 : IsNat W (.agg #[.int .u64 1,.slice none 0 0]) 1) => add_any K (by omega) v _ _ 1 W g1 g2 dK hp1
  have su := fun v1 v2 W (g1 : IsNat W v1 n2) (g2 : IsNat W v2 (n1 % n2)) => sub_any K (by exact pos_of_pw hp1) (by omega) v1 v2 n2 (n1 % n2) W g1 g2 h2K (by omega)
  clear m0 dK hp1 h1K h2K mm hx hy
  go_wp2_with fail
  clear a0 a1 a2 b0 b1 b2 c0 c1 c2 d0 d1 d2 f0 f1 f2 g0 g1 g2
  refine wpIn_wide (n := 5) |>.1 ?_
  refine region_ways (by kernel_rfl) fun R hR => ?_
  have U := fun (n : Nat) (l : Array Bool) (a : Act) (w : World) (h : R n l a w) => cast (congrFun (congrFun (congrFun (congrFun hR.symm n) l) a) w) h
  have H0 : ∀ (W : World) (x1 : Int) (p1 : Option Addr) (l1 k1 : Nat) (ht : IsNat W (.agg #[.int .u64 x1,.slice p1 l1 k1]) (n1 / n2 + 1)) (ag : w8.grownBy W (some s)) (u : Var W s (.int .u64 x1) (.slice p1 l1 k1)) (n1f : IsNat W (.agg #[.int .u64 xa,.slice pa la ka]) (n1 / n2)) (n2f : IsNat W (.agg #[.int .u64 y,.slice r m d]) n2) (n3f : IsNat W (.agg #[.int .u64 xb,.slice pb lb kb]) (n1 % n2)),R 0 #[true,true,true,true] { tmps := #[.agg #[.bool A,.int .u64 x,.slice p l c],.agg #[.bool B,.int .u64 y,.slice r m d],.pointer (some ⟨q,0,none⟩),.pointer (some ⟨q + 1,0,none⟩),.pointer (some ⟨q + 1 + 1,0,none⟩),.pointer (some ⟨q + 1 + 1 + 1,0,none⟩),.bool true,.pointer (some ⟨s,0,none⟩),.pointer (some ⟨s + 1,0,none⟩),.bool true,.tuple #[.agg #[.int .u64 xa,.slice pa la ka],.agg #[.int .u64 xb,.slice pb lb kb],.bool true],.pointer (some ⟨q,1,none⟩),.agg #[.int .u64 x,.slice p l c],.pointer (some ⟨q + 1,1,none⟩),.agg #[.int .u64 y,.slice r m d],.tuple #[.agg #[.int .u64 xa,.slice pa la ka],.agg #[.int .u64 xb,.slice pb lb kb],.bool true],.agg #[.int .u64 xa,.slice pa la ka],.agg #[.int .u64 xb,.slice pb lb kb],.bool true,.bool true,.bool false,undef,undef,.pointer (some ⟨q,0,none⟩),.bool A,.pointer (some ⟨q + 1,0,none⟩),.bool B,.bool true,.bool true,.bool true,.agg #[.int .u64 xb,.slice pb lb kb],.int .i64 (kk : Int),.bool true,.bool true,.agg #[.int .u64 xa,.slice pa la ka],.agg #[.int .u64 1,.slice none 0 0],.agg #[.int .u64 x1,.slice p1 l1 k1],undef,undef,undef,undef,undef,undef,undef,undef,undef,undef,undef,undef,undef,undef],defers := [] } W := by
    intro W x1 p1 l1 k1 ht ag u n1f n2f n3f
    rw [← hR]
    refine wpAnyIn_done (by kernel_rfl) ?_ _
    have acc2 := Below.ofGrown acc ag (by have := u1.lt; omega) wsa
    have u2W := u2.grown ag (by simp)
    have h0c := u.c0
    have h1c := u.c1
    have h2c := u2W.c0
    have h3c := u2W.c1
    have a0 := (ra.below acc2 z0).cell0
    have a1 := (ra.below acc2 z0).cell1
    have a2 := (ra.below acc2 z0).cell2
    have b0 := (rb.below acc2 z1).cell0
    have b1 := (rb.below acc2 z1).cell1
    have b2 := (rb.below acc2 z1).cell2
    have c0 := (r4.below acc2 z4).cell0
    have c1 := (r4.below acc2 z4).cell1
    have c2 := (r4.below acc2 z4).cell2
    have d0 := (r5.below acc2 z5).cell0
    have d1 := (r5.below acc2 z5).cell1
    have d2 := (r5.below acc2 z5).cell2
    have f0 := (r4.below acc2 z4).free 0
    have f1 := (r4.below acc2 z4).free 1
    have f2 := (r4.below acc2 z4).free 2
    have g0 := (r5.below acc2 z5).free 0
    have g1 := (r5.below acc2 z5).free 1
    have g2 := (r5.below acc2 z5).free 2
    go_wp2_with fail
    refine (su _ _ W n2f n3f).mono ?_
    rintro e wB ⟨v2,rfl,ht2,hbB⟩
    obtain ⟨x2,p2,l2,k2,rfl⟩ := ht2.shape
    have acc3 := acc2.trans (hbB.mono (by have := u2W.lt; omega))
    have uB := u.below hbB u.lt
    have u2B := u2W.below hbB u2W.lt
    have htB := ht.below hbB
    clear a0 a1 a2 b0 b1 b2 c0 c1 c2 d0 d1 d2 f0 f1 f2 g0 g1 g2
    clear h0c h1c h2c h3c
    have h0c := uB.c0
    have h1c := uB.c1
    have h2c := u2B.c0
    have h3c := u2B.c1
    have e2f := u2B.free 0
    have e3f := u2B.free 1
    have a0 := (ra.below acc3 z0).cell0
    have a1 := (ra.below acc3 z0).cell1
    have a2 := (ra.below acc3 z0).cell2
    have b0 := (rb.below acc3 z1).cell0
    have b1 := (rb.below acc3 z1).cell1
    have b2 := (rb.below acc3 z1).cell2
    have c0 := (r4.below acc3 z4).cell0
    have c1 := (r4.below acc3 z4).cell1
    have c2 := (r4.below acc3 z4).cell2
    have d0 := (r5.below acc3 z5).cell0
    have d1 := (r5.below acc3 z5).cell1
    have d2 := (r5.below acc3 z5).cell2
    have f0 := (r4.below acc3 z4).free 0
    have f1 := (r4.below acc3 z4).free 1
    have f2 := (r4.below acc3 z4).free 2
    have g0 := (r5.below acc3 z5).free 0
    have g1 := (r5.below acc3 z5).free 1
    have g2 := (r5.below acc3 z5).free 2
    go_wp2_with fail
    have nss : s ≠ s + 1 := by omega
    have v1 := (uB.other nss (i := 0) (.int .u64 x2)).other nss (i := 1) (.slice p2 l2 k2)
    have v2 := u2B.set (.int .u64 x2) p2 l2 k2
    have i1 := htB.two u2B (.int .u64 x2) (.slice p2 l2 k2)
    have i2 := ht2.two u2B (.int .u64 x2) (.slice p2 l2 k2)
    have acc4 := (acc3.setCell (p := ⟨s + 1,0,none⟩) (by show q + 4 ≤ s + 1; omega) (.int .u64 x2)).setCell (p := ⟨s + 1,1,none⟩) (by show q + 4 ≤ s + 1; omega) (.slice p2 l2 k2)
    generalize ((wB.setCell ⟨s + 1,0,none⟩ (.int .u64 x2)).setCell ⟨s + 1,1,none⟩ (.slice p2 l2 k2)) = wd at v1 v2 i1 i2 acc4 ⊢
    clear h0c h1c h2c h3c e2f e3f uB u2B htB ht2 acc2 acc3 u2W u n1f n2f n3f ag ht hbB
    clear a0 a1 a2 b0 b1 b2 c0 c1 c2 d0 d1 d2 f0 f1 f2 g0 g1 g2
    clear acc u1 u2 hs1 hs2 hnyA
    have acc := acc4
    have u1 := v1
    have u2 := v2
    have hs1 := i1
    have hs2 := i2
    clear v1 v2 i1 i2 acc4
    have sb := rb.below acc z1
    have s4 := r4.below acc z4
    have s5 := r5.below acc z5
    have hbd := hW.trans (acc.mono (by have := hW.size; omega))
    have y1 := sb.lt
    have y4 := s4.lt
    have y5 := s5.lt
    have yu1 := u1.lt
    have yu2 := u2.lt
    have e1b : q + 1 ≠ q + 1 + 1 := by omega
    have e1b5 : q + 1 ≠ q + 1 + 1 + 1 := by omega
    have e1u : s ≠ q + 1 + 1 := by omega
    have e1u5 : s ≠ q + 1 + 1 + 1 := by omega
    have e2u : s + 1 ≠ q + 1 + 1 := by omega
    have e2u5 : s + 1 ≠ q + 1 + 1 + 1 := by omega
    have e45 : q + 1 + 1 ≠ q + 1 + 1 + 1 := by omega
    have e54 : q + 1 + 1 + 1 ≠ q + 1 + 1 := by omega
    have hq2 : w.heap.size ≤ q + 1 + 1 := by omega
    have hq3 : w.heap.size ≤ q + 1 + 1 + 1 := by omega
    clear acc ra rb r4 r5
    have acc := Below.refl wd.heap.size wd
    have hs1d : IsNat wd.drew (.agg #[.int .u64 x1,.slice p1 l1 k1]) (n1 / n2 + 1) := hs1
    have b0 := (sb.below acc y1).cell0
    have b1 := (sb.below acc y1).cell1
    have b2 := (sb.below acc y1).cell2
    have c0 := (s4.below acc y4).cell0
    have c1 := (s4.below acc y4).cell1
    have c2 := (s4.below acc y4).cell2
    have d0 := (s5.below acc y5).cell0
    have d1 := (s5.below acc y5).cell1
    have d2 := (s5.below acc y5).cell2
    have f0 := (s4.below acc y4).free 0
    have f1 := (s4.below acc y4).free 1
    have f2 := (s4.below acc y4).free 2
    have g0 := (s5.below acc y5).free 0
    have g1 := (s5.below acc y5).free 1
    have g2 := (s5.below acc y5).free 2
    have h0c := (u1.below acc yu1).c0
    have h1c := (u1.below acc yu1).c1
    have h2c := (u2.below acc yu2).c0
    have h3c := (u2.below acc yu2).c1
    go_region_held3 (fun w' => w'.cell? ⟨q + 1,0,none⟩ = some (.bool B) ∧ w'.cell? ⟨q + 1,1,none⟩ = some (.int .u64 y) ∧ w'.cell? ⟨q + 1,2,none⟩ = some (.slice r m d) ∧ w'.cell? ⟨s,0,none⟩ = some (.int .u64 x1) ∧ w'.cell? ⟨s,1,none⟩ = some (.slice p1 l1 k1) ∧ w'.cell? ⟨s + 1,0,none⟩ = some (.int .u64 x2) ∧ w'.cell? ⟨s + 1,1,none⟩ = some (.slice p2 l2 k2))
      (first | with_reducible exact ⟨(sb.below acc y1).cell0,(sb.below acc y1).cell1,(sb.below acc y1).cell2,(u1.below acc yu1).c0,(u1.below acc yu1).c1,(u2.below acc yu2).c0,(u2.below acc yu2).c1⟩ | with_reducible exact ⟨(sb.below acc y1).drew.cell0,(sb.below acc y1).drew.cell1,(sb.below acc y1).drew.cell2,(u1.below acc yu1).drew.c0,(u1.below acc yu1).drew.c1,(u2.below acc yu2).drew.c0,(u2.below acc yu2).drew.c1⟩ | with_reducible exact ⟨((((sb.below acc y1).other (a := ⟨q + 1 + 1,0,none⟩) e1b _).other (a := ⟨q + 1 + 1,1,none⟩) e1b _).other (a := ⟨q + 1 + 1,2,none⟩) e1b _).cell0,((((sb.below acc y1).other (a := ⟨q + 1 + 1,0,none⟩) e1b _).other (a := ⟨q + 1 + 1,1,none⟩) e1b _).other (a := ⟨q + 1 + 1,2,none⟩) e1b _).cell1,((((sb.below acc y1).other (a := ⟨q + 1 + 1,0,none⟩) e1b _).other (a := ⟨q + 1 + 1,1,none⟩) e1b _).other (a := ⟨q + 1 + 1,2,none⟩) e1b _).cell2,((((u1.below acc yu1).other e1u _).other e1u _).other e1u _).c0,((((u1.below acc yu1).other e1u _).other e1u _).other e1u _).c1,((((u2.below acc yu2).other e2u _).other e2u _).other e2u _).c0,((((u2.below acc yu2).other e2u _).other e2u _).other e2u _).c1⟩ | with_reducible exact ⟨((((((( sb.below acc y1).other (a := ⟨q + 1 + 1,0,none⟩) e1b _).other (a := ⟨q + 1 + 1,1,none⟩) e1b _).other (a := ⟨q + 1 + 1,2,none⟩) e1b _).other (a := ⟨q + 1 + 1 + 1,0,none⟩) e1b5 _).other (a := ⟨q + 1 + 1 + 1,1,none⟩) e1b5 _).other (a := ⟨q + 1 + 1 + 1,2,none⟩) e1b5 _).cell0,((((((( sb.below acc y1).other (a := ⟨q + 1 + 1,0,none⟩) e1b _).other (a := ⟨q + 1 + 1,1,none⟩) e1b _).other (a := ⟨q + 1 + 1,2,none⟩) e1b _).other (a := ⟨q + 1 + 1 + 1,0,none⟩) e1b5 _).other (a := ⟨q + 1 + 1 + 1,1,none⟩) e1b5 _).other (a := ⟨q + 1 + 1 + 1,2,none⟩) e1b5 _).cell1,((((((( sb.below acc y1).other (a := ⟨q + 1 + 1,0,none⟩) e1b _).other (a := ⟨q + 1 + 1,1,none⟩) e1b _).other (a := ⟨q + 1 + 1,2,none⟩) e1b _).other (a := ⟨q + 1 + 1 + 1,0,none⟩) e1b5 _).other (a := ⟨q + 1 + 1 + 1,1,none⟩) e1b5 _).other (a := ⟨q + 1 + 1 + 1,2,none⟩) e1b5 _).cell2,(((((((u1.below acc yu1).other e1u _).other e1u _).other e1u _).other e1u5 _).other e1u5 _).other e1u5 _).c0,(((((((u1.below acc yu1).other e1u _).other e1u _).other e1u _).other e1u5 _).other e1u5 _).other e1u5 _).c1,(((((((u2.below acc yu2).other e2u _).other e2u _).other e2u _).other e2u5 _).other e2u5 _).other e2u5 _).c0,(((((((u2.below acc yu2).other e2u _).other e2u _).other e2u _).other e2u5 _).other e2u5 _).other e2u5 _).c1⟩)
      (first
        | (go_at_call 23; (first | (have q1 := fq _ wd hs1; (with_reducible refine q1.mono ?_); clear q1) | (have q1 := fq _ wd.drew hs1d; (with_reducible refine q1.mono ?_); clear q1)); rintro e we ⟨v3,rfl,⟨x3,p3,l3,k3,rfl,hn3⟩,hb⟩; (first | replace hb : Below wd.heap.size wd we := hb | replace hb := below_undrew (w := wd) hb); replace acc := acc.trans (hb.mono acc.size); have hs2e := hs2.below hb; have b0 := (sb.below acc y1).cell0; have b1 := (sb.below acc y1).cell1; have b2 := (sb.below acc y1).cell2; have c0 := (s4.below acc y4).cell0; have c1 := (s4.below acc y4).cell1; have c2 := (s4.below acc y4).cell2; have d0 := (s5.below acc y5).cell0; have d1 := (s5.below acc y5).cell1; have d2 := (s5.below acc y5).cell2; have f0 := (s4.below acc y4).free 0; have f1 := (s4.below acc y4).free 1; have f2 := (s4.below acc y4).free 2; have g0 := (s5.below acc y5).free 0; have g1 := (s5.below acc y5).free 1; have g2 := (s5.below acc y5).free 2; have h0c := (u1.below acc yu1).c0; have h1c := (u1.below acc yu1).c1; have h2c := (u2.below acc yu2).c0; have h3c := (u2.below acc yu2).c1; clear hb)
        | (go_at_call 23; (first | (have q1 := fm _ we hs2e; (with_reducible refine q1.mono ?_); clear q1) | (have q1 := fm _ we.drew hs2e.drew; (with_reducible refine q1.mono ?_); clear q1)); rintro e wf ⟨v4,rfl,⟨x4,p4,l4,k4,rfl,hn4⟩,hb⟩; (first | replace hb : Below we.heap.size we wf := hb | replace hb := below_undrew (w := we) hb); replace acc := acc.trans (hb.mono acc.size); have hn3e := hn3.below hb; have b0 := (sb.below acc y1).cell0; have b1 := (sb.below acc y1).cell1; have b2 := (sb.below acc y1).cell2; have c0 := (s4.below acc y4).cell0; have c1 := (s4.below acc y4).cell1; have c2 := (s4.below acc y4).cell2; have d0 := (s5.below acc y5).cell0; have d1 := (s5.below acc y5).cell1; have d2 := (s5.below acc y5).cell2; have f0 := (s4.below acc y4).free 0; have f1 := (s4.below acc y4).free 1; have f2 := (s4.below acc y4).free 2; have g0 := (s5.below acc y5).free 0; have g1 := (s5.below acc y5).free 1; have g2 := (s5.below acc y5).free 2; have h0c := (u1.below acc yu1).c0; have h1c := (u1.below acc yu1).c1; have h2c := (u2.below acc yu2).c0; have h3c := (u2.below acc yu2).c1; clear hb))
    all_goals
      have t4 := s4.below acc y4
      have t5 := s5.below acc y5
      have g4 := t4.set3 (.bool (decide (Q < 0))) (.int .u64 x3) (.slice p3 l3 k3)
      have g5 := ((t5.other (a := ⟨q + 1 + 1,0,none⟩) e54 (.bool (decide (Q < 0)))).other (a := ⟨q + 1 + 1,1,none⟩) e54 (.int .u64 x3)).other (a := ⟨q + 1 + 1,2,none⟩) e54 (.slice p3 l3 k3)
      have g45 := ((g4.other (a := ⟨q + 1 + 1 + 1,0,none⟩) e45 (.bool (decide (Z < 0)))).other (a := ⟨q + 1 + 1 + 1,1,none⟩) e45 (.int .u64 x4)).other (a := ⟨q + 1 + 1 + 1,2,none⟩) e45 (.slice p4 l4 k4)
      have g55 := g5.set3 (.bool (decide (Z < 0))) (.int .u64 x4) (.slice p4 l4 k4)
      have n3 := (hn3e.row3 t4 (.bool (decide (Q < 0))) (.int .u64 x3) (.slice p3 l3 k3)).row3 g5 (.bool (decide (Z < 0))) (.int .u64 x4) (.slice p4 l4 k4)
      have n4 := (hn4.row3 t4 (.bool (decide (Q < 0))) (.int .u64 x3) (.slice p3 l3 k3)).row3 g5 (.bool (decide (Z < 0))) (.int .u64 x4) (.slice p4 l4 k4)
      have hbf := hbd.trans (acc.mono hbd.size)
      have hB4 := ((hbf.setCell (p := ⟨q + 1 + 1,0,none⟩) hq2 (.bool (decide (Q < 0)))).setCell (p := ⟨q + 1 + 1,1,none⟩) hq2 (.int .u64 x3)).setCell (p := ⟨q + 1 + 1,2,none⟩) hq2 (.slice p3 l3 k3)
      have hB5 := ((hB4.setCell (p := ⟨q + 1 + 1 + 1,0,none⟩) hq3 (.bool (decide (Z < 0)))).setCell (p := ⟨q + 1 + 1 + 1,1,none⟩) hq3 (.int .u64 x4)).setCell (p := ⟨q + 1 + 1 + 1,2,none⟩) hq3 (.slice p4 l4 k4)
      go_wp2_with fail
      exact bodyPost_qr Tryz.results26 rfl rfl rfl rfl g45 g55 rfl rfl n3 n4 hB5
  have H1 : ∀ (W : World) (x1 : Int) (p1 : Option Addr) (l1 k1 : Nat) (ht : IsNat W (.agg #[.int .u64 x1,.slice p1 l1 k1]) (n1 / n2 + 1)) (ag : w8.grownBy W (some s)) (u : Var W s (.int .u64 xa) (.slice pa la ka)) (n1f : IsNat W (.agg #[.int .u64 xa,.slice pa la ka]) (n1 / n2)) (n2f : IsNat W (.agg #[.int .u64 y,.slice r m d]) n2) (n3f : IsNat W (.agg #[.int .u64 xb,.slice pb lb kb]) (n1 % n2)),R 1 #[true,true,true,false] { tmps := #[.agg #[.bool A,.int .u64 x,.slice p l c],.agg #[.bool B,.int .u64 y,.slice r m d],.pointer (some ⟨q,0,none⟩),.pointer (some ⟨q + 1,0,none⟩),.pointer (some ⟨q + 1 + 1,0,none⟩),.pointer (some ⟨q + 1 + 1 + 1,0,none⟩),.bool true,.pointer (some ⟨s,0,none⟩),.pointer (some ⟨s + 1,0,none⟩),.bool true,.tuple #[.agg #[.int .u64 xa,.slice pa la ka],.agg #[.int .u64 xb,.slice pb lb kb],.bool true],.pointer (some ⟨q,1,none⟩),.agg #[.int .u64 x,.slice p l c],.pointer (some ⟨q + 1,1,none⟩),.agg #[.int .u64 y,.slice r m d],.tuple #[.agg #[.int .u64 xa,.slice pa la ka],.agg #[.int .u64 xb,.slice pb lb kb],.bool true],.agg #[.int .u64 xa,.slice pa la ka],.agg #[.int .u64 xb,.slice pb lb kb],.bool true,.bool true,.bool false,undef,undef,.pointer (some ⟨q,0,none⟩),.bool A,.pointer (some ⟨q + 1,0,none⟩),.bool B,.bool true,.bool true,.bool true,.agg #[.int .u64 xb,.slice pb lb kb],.int .i64 (kk : Int),.bool true,.bool true,.agg #[.int .u64 xa,.slice pa la ka],.agg #[.int .u64 1,.slice none 0 0],.agg #[.int .u64 x1,.slice p1 l1 k1],undef,undef,undef,undef,undef,undef,undef,undef,undef,undef,undef,undef,undef,undef],defers := [] } W := by
    intro W x1 p1 l1 k1 ht ag u n1f n2f n3f
    rw [← hR]
    have h0c := u.c0
    have h1c := u.c1
    have e0f := u.free 0
    have e1f := u.free 1
    refine wpAnyIn_ready (rs := [3]) (by kernel_rfl) (by simp) ?_
    refine AllReadyIn.cons rfl (fun K hK => ?_) ?_
    · go_simp
      exact hK _ _ (U _ _ _ _ (H0 ((W.setCell ⟨s,0,none⟩ (.int .u64 x1)).setCell ⟨s,1,none⟩ (.slice p1 l1 k1)) x1 p1 l1 k1 (ht.two u _ _) (grownBy_trans ag (grownBy_trans (grownBy_set W s 0 _) (grownBy_set _ s 1 _))) (u.set _ _ _ _) (n1f.two u _ _) (n2f.two u _ _) (n3f.two u _ _)))
    exact AllReadyIn.nil
  have H2 : ∀ (W : World) (ag : w8.grownBy W (some s)) (u : Var W s (.int .u64 xa) (.slice pa la ka)) (n1f : IsNat W (.agg #[.int .u64 xa,.slice pa la ka]) (n1 / n2)) (n2f : IsNat W (.agg #[.int .u64 y,.slice r m d]) n2) (n3f : IsNat W (.agg #[.int .u64 xb,.slice pb lb kb]) (n1 % n2)),R 2 #[true,true,false,false] { tmps := #[.agg #[.bool A,.int .u64 x,.slice p l c],.agg #[.bool B,.int .u64 y,.slice r m d],.pointer (some ⟨q,0,none⟩),.pointer (some ⟨q + 1,0,none⟩),.pointer (some ⟨q + 1 + 1,0,none⟩),.pointer (some ⟨q + 1 + 1 + 1,0,none⟩),.bool true,.pointer (some ⟨s,0,none⟩),.pointer (some ⟨s + 1,0,none⟩),.bool true,.tuple #[.agg #[.int .u64 xa,.slice pa la ka],.agg #[.int .u64 xb,.slice pb lb kb],.bool true],.pointer (some ⟨q,1,none⟩),.agg #[.int .u64 x,.slice p l c],.pointer (some ⟨q + 1,1,none⟩),.agg #[.int .u64 y,.slice r m d],.tuple #[.agg #[.int .u64 xa,.slice pa la ka],.agg #[.int .u64 xb,.slice pb lb kb],.bool true],.agg #[.int .u64 xa,.slice pa la ka],.agg #[.int .u64 xb,.slice pb lb kb],.bool true,.bool true,.bool false,undef,undef,.pointer (some ⟨q,0,none⟩),.bool A,.pointer (some ⟨q + 1,0,none⟩),.bool B,.bool true,.bool true,.bool true,.agg #[.int .u64 xb,.slice pb lb kb],.int .i64 (kk : Int),.bool true,.bool true,.agg #[.int .u64 xa,.slice pa la ka],.agg #[.int .u64 1,.slice none 0 0],undef,undef,undef,undef,undef,undef,undef,undef,undef,undef,undef,undef,undef,undef,undef],defers := [] } W := by
    intro W ag u n1f n2f n3f
    rw [← hR]
    have h0c := u.c0
    have h1c := u.c1
    have e0f := u.free 0
    have e1f := u.free 1
    refine wpAnyIn_ready (rs := [2]) (by kernel_rfl) (by simp) ?_
    refine AllReadyIn.cons rfl (fun K hK => ?_) ?_
    · go_simp
      gi_wp2_with (refine ⟨trivial,?_⟩; gi_at_call 53; refine (callsIn_wide.2 (ad _ W n1f (IsNat.word ⟨by decide,by decide⟩))).mono ?_; rintro e W2 ⟨v1,rfl,ht0,hb⟩; obtain ⟨x1,p1,l1,k1,rfl⟩ := ht0.shape)
      exact U _ _ _ _ (H1 W2 x1 p1 l1 k1 ht0 (grownBy_trans ag (grownBy_below hb (Nat.le_refl _) _)) (u.below hb u.lt) (n1f.below hb) (n2f.below hb) (n3f.below hb))
    exact AllReadyIn.nil
  have H3 : ∀ (W : World) (ag : w8.grownBy W (some s)) (u : Var W s (.int .u64 xa) (.slice pa la ka)) (n1f : IsNat W (.agg #[.int .u64 xa,.slice pa la ka]) (n1 / n2)) (n2f : IsNat W (.agg #[.int .u64 y,.slice r m d]) n2) (n3f : IsNat W (.agg #[.int .u64 xb,.slice pb lb kb]) (n1 % n2)),R 3 #[true,false,false,false] { tmps := #[.agg #[.bool A,.int .u64 x,.slice p l c],.agg #[.bool B,.int .u64 y,.slice r m d],.pointer (some ⟨q,0,none⟩),.pointer (some ⟨q + 1,0,none⟩),.pointer (some ⟨q + 1 + 1,0,none⟩),.pointer (some ⟨q + 1 + 1 + 1,0,none⟩),.bool true,.pointer (some ⟨s,0,none⟩),.pointer (some ⟨s + 1,0,none⟩),.bool true,.tuple #[.agg #[.int .u64 xa,.slice pa la ka],.agg #[.int .u64 xb,.slice pb lb kb],.bool true],.pointer (some ⟨q,1,none⟩),.agg #[.int .u64 x,.slice p l c],.pointer (some ⟨q + 1,1,none⟩),.agg #[.int .u64 y,.slice r m d],.tuple #[.agg #[.int .u64 xa,.slice pa la ka],.agg #[.int .u64 xb,.slice pb lb kb],.bool true],.agg #[.int .u64 xa,.slice pa la ka],.agg #[.int .u64 xb,.slice pb lb kb],.bool true,.bool true,.bool false,undef,undef,.pointer (some ⟨q,0,none⟩),.bool A,.pointer (some ⟨q + 1,0,none⟩),.bool B,.bool true,.bool true,.bool true,.agg #[.int .u64 xb,.slice pb lb kb],.int .i64 (kk : Int),.bool true,.bool true,.agg #[.int .u64 xa,.slice pa la ka],undef,undef,undef,undef,undef,undef,undef,undef,undef,undef,undef,undef,undef,undef,undef,undef],defers := [] } W := by
    intro W ag u n1f n2f n3f
    rw [← hR]
    have h0c := u.c0
    have h1c := u.c1
    have e0f := u.free 0
    have e1f := u.free 1
    refine wpAnyIn_ready (rs := [1]) (by kernel_rfl) (by simp) ?_
    refine AllReadyIn.cons rfl (fun K hK => ?_) ?_
    · go_simp
      gi_wp2_with (refine ⟨trivial,?_⟩; gi_at_call 48; refine (callsIn_wide.2 (of_any 1 W)).mono ?_; rintro e W2 ⟨rfl,hb⟩; skip)
      exact U _ _ _ _ (H2 W2 (grownBy_trans ag (grownBy_below hb (Nat.le_refl _) _)) (u.below hb u.lt) (n1f.below hb) (n2f.below hb) (n3f.below hb))
    exact AllReadyIn.nil
  have H4 : ∀ (W : World) (ag : w8.grownBy W (some s)) (u : Var W s (.int .u64 xa) (.slice pa la ka)) (n1f : IsNat W (.agg #[.int .u64 xa,.slice pa la ka]) (n1 / n2)) (n2f : IsNat W (.agg #[.int .u64 y,.slice r m d]) n2) (n3f : IsNat W (.agg #[.int .u64 xb,.slice pb lb kb]) (n1 % n2)),R 3 #[false,true,false,false] { tmps := #[.agg #[.bool A,.int .u64 x,.slice p l c],.agg #[.bool B,.int .u64 y,.slice r m d],.pointer (some ⟨q,0,none⟩),.pointer (some ⟨q + 1,0,none⟩),.pointer (some ⟨q + 1 + 1,0,none⟩),.pointer (some ⟨q + 1 + 1 + 1,0,none⟩),.bool true,.pointer (some ⟨s,0,none⟩),.pointer (some ⟨s + 1,0,none⟩),.bool true,.tuple #[.agg #[.int .u64 xa,.slice pa la ka],.agg #[.int .u64 xb,.slice pb lb kb],.bool true],.pointer (some ⟨q,1,none⟩),.agg #[.int .u64 x,.slice p l c],.pointer (some ⟨q + 1,1,none⟩),.agg #[.int .u64 y,.slice r m d],.tuple #[.agg #[.int .u64 xa,.slice pa la ka],.agg #[.int .u64 xb,.slice pb lb kb],.bool true],.agg #[.int .u64 xa,.slice pa la ka],.agg #[.int .u64 xb,.slice pb lb kb],.bool true,.bool true,.bool false,undef,undef,.pointer (some ⟨q,0,none⟩),.bool A,.pointer (some ⟨q + 1,0,none⟩),.bool B,.bool true,.bool true,.bool true,.agg #[.int .u64 xb,.slice pb lb kb],.int .i64 (kk : Int),.bool true,.bool true,undef,.agg #[.int .u64 1,.slice none 0 0],undef,undef,undef,undef,undef,undef,undef,undef,undef,undef,undef,undef,undef,undef,undef],defers := [] } W := by
    intro W ag u n1f n2f n3f
    rw [← hR]
    have h0c := u.c0
    have h1c := u.c1
    have e0f := u.free 0
    have e1f := u.free 1
    refine wpAnyIn_ready (rs := [0]) (by kernel_rfl) (by simp) ?_
    refine AllReadyIn.cons rfl (fun K hK => ?_) ?_
    · go_simp
      exact hK _ _ (U _ _ _ _ (H2 W ag u n1f n2f n3f))
    exact AllReadyIn.nil
  have H5 : ∀ (W : World) (ag : w8.grownBy W (some s)) (u : Var W s (.int .u64 xa) (.slice pa la ka)) (n1f : IsNat W (.agg #[.int .u64 xa,.slice pa la ka]) (n1 / n2)) (n2f : IsNat W (.agg #[.int .u64 y,.slice r m d]) n2) (n3f : IsNat W (.agg #[.int .u64 xb,.slice pb lb kb]) (n1 % n2)),R 4 #[false,false,false,false] { tmps := #[.agg #[.bool A,.int .u64 x,.slice p l c],.agg #[.bool B,.int .u64 y,.slice r m d],.pointer (some ⟨q,0,none⟩),.pointer (some ⟨q + 1,0,none⟩),.pointer (some ⟨q + 1 + 1,0,none⟩),.pointer (some ⟨q + 1 + 1 + 1,0,none⟩),.bool true,.pointer (some ⟨s,0,none⟩),.pointer (some ⟨s + 1,0,none⟩),.bool true,.tuple #[.agg #[.int .u64 xa,.slice pa la ka],.agg #[.int .u64 xb,.slice pb lb kb],.bool true],.pointer (some ⟨q,1,none⟩),.agg #[.int .u64 x,.slice p l c],.pointer (some ⟨q + 1,1,none⟩),.agg #[.int .u64 y,.slice r m d],.tuple #[.agg #[.int .u64 xa,.slice pa la ka],.agg #[.int .u64 xb,.slice pb lb kb],.bool true],.agg #[.int .u64 xa,.slice pa la ka],.agg #[.int .u64 xb,.slice pb lb kb],.bool true,.bool true,.bool false,undef,undef,.pointer (some ⟨q,0,none⟩),.bool A,.pointer (some ⟨q + 1,0,none⟩),.bool B,.bool true,.bool true,.bool true,.agg #[.int .u64 xb,.slice pb lb kb],.int .i64 (kk : Int),.bool true,.bool true,undef,undef,undef,undef,undef,undef,undef,undef,undef,undef,undef,undef,undef,undef,undef,undef,undef],defers := [] } W := by
    intro W ag u n1f n2f n3f
    rw [← hR]
    have h0c := u.c0
    have h1c := u.c1
    have e0f := u.free 0
    have e1f := u.free 1
    refine wpAnyIn_ready (rs := [0,1]) (by kernel_rfl) (by simp) ?_
    refine AllReadyIn.cons rfl (fun K hK => ?_) ?_
    · go_simp
      exact hK _ _ (U _ _ _ _ (H3 W ag u n1f n2f n3f))
    refine AllReadyIn.cons rfl (fun K hK => ?_) ?_
    · go_simp
      gi_wp2_with (refine ⟨trivial,?_⟩; gi_at_call 48; refine (callsIn_wide.2 (of_any 1 W)).mono ?_; rintro e W2 ⟨rfl,hb⟩; skip)
      exact U _ _ _ _ (H4 W2 (grownBy_trans ag (grownBy_below hb (Nat.le_refl _) _)) (u.below hb u.lt) (n1f.below hb) (n2f.below hb) (n3f.below hb))
    exact AllReadyIn.nil
  exact H5 w8.drew (grownBy_drew w8 (some s)) u1 hs1 hnyA hs2
end Go.Proofs.YtgccgacpifebbaaGreatDoor
namespace Go.Proofs.YtgccgacpifebbaaGreatDoor
open Go.RowKit
set_option linter.unusedVariables false
def sameI (a b : Int) : Bool := decide (a < 0) == decide (b < 0)
/-- The quotient,rounded down; what is left. -/
def qI (a b : Int) : Int := if sameI a b = true then absI a / absI b else if absI a % absI b = 0 then -(absI a / absI b) else -(absI a / absI b + 1)
def lI (a b : Int) : Int := if sameI a b = true ∨ absI a % absI b = 0 then absI a % absI b else absI b - absI a % absI b
def rI (a b : Int) : Int := if b < 0 then -lI a b else lI a b
theorem lI_range {a b : Int} (hb : b ≠ 0) : 0 ≤ lI a b ∧ lI a b < absI b := by
  have h1 : 0 < absI b := by unfold absI; split <;> omega
  have h2 := Int.emod_nonneg (absI a) (show absI b ≠ 0 by omega)
  have h3 := Int.emod_lt_of_pos (absI a) h1
  unfold lI
  split
  · exact ⟨h2,h3⟩
  · rename_i h
    have : absI a % absI b ≠ 0 := fun e => h (.inr e)
    omega
theorem qrI {a b : Int} (hb : b ≠ 0) : qI a b * b + rI a b = a := by
  have hd := Int.mul_ediv_add_emod (absI a) (absI b)
  obtain ⟨D,hD⟩ : ∃ D,absI a / absI b = D := ⟨_,rfl⟩
  obtain ⟨M,hM⟩ : ∃ M,absI a % absI b = M := ⟨_,rfl⟩
  have t1 : b * D = D * b := Int.mul_comm _ _
  have t2 : -b * D = -(D * b) := by rw [Int.neg_mul,Int.mul_comm]
  have t3 : -D * b = -(D * b) := Int.neg_mul _ _
  have t4 : -(D + 1) * b = -(D * b) - b := by rw [Int.neg_mul,Int.add_mul,Int.one_mul]; omega
  unfold qI rI lI sameI
  rw [hD,hM] at hd
  rw [hD,hM]
  obtain ⟨T,hT⟩ : ∃ T,D * b = T := ⟨_,rfl⟩
  rw [hT] at t1 t2 t3 t4
  by_cases ha : a < 0 <;> by_cases hb0 : b < 0
  · have ea : absI a = -a := by unfold absI; rw [if_pos ha]
    have eb : absI b = -b := by unfold absI; rw [if_pos hb0]
    rw [ea,eb,t2] at hd
    rw [decide_eq_true ha,decide_eq_true hb0,beq_self_eq_true,if_pos (Eq.refl true),if_pos hb0,if_pos (Or.inl (Eq.refl true)),hT]
    omega
  · have ea : absI a = -a := by unfold absI; rw [if_pos ha]
    have eb : absI b = b := by unfold absI; rw [if_neg hb0]
    rw [ea,eb,t1] at hd
    rw [decide_eq_true ha,decide_eq_false hb0,if_neg (by decide),if_neg hb0,eb]
    by_cases h0 : M = 0
    · rw [if_pos h0,if_pos (.inr h0),t3]; omega
    · rw [if_neg h0,if_neg (by rintro (h | h); exact absurd h (by decide); exact h0 h),t4]; omega
  · have ea : absI a = a := by unfold absI; rw [if_neg ha]
    have eb : absI b = -b := by unfold absI; rw [if_pos hb0]
    rw [ea,eb,t2] at hd
    rw [decide_eq_false ha,decide_eq_true hb0,if_neg (by decide),if_pos hb0,eb]
    by_cases h0 : M = 0
    · rw [if_pos h0,if_pos (.inr h0),t3]; omega
    · rw [if_neg h0,if_neg (by rintro (h | h); exact absurd h (by decide); exact h0 h),t4]; omega
  · have ea : absI a = a := by unfold absI; rw [if_neg ha]
    have eb : absI b = b := by unfold absI; rw [if_neg hb0]
    rw [ea,eb,t1] at hd
    rw [decide_eq_false ha,decide_eq_false hb0,beq_self_eq_true,if_pos (Eq.refl true),if_neg hb0,if_pos (Or.inl (Eq.refl true)),hT]
    omega
theorem div_int (K : Nat) (hK : K ≤ 200) (va vb : Value) (a b : Int) (w : World) (ha : IsInt w va a) (hb : IsInt w vb b) (haK : absI a < pw K) (hbK : absI b < pw K) (hp1 : (1 : Int) < pw K) (hb0 : b ≠ 0) : Calls Tryz.prog 26 #[va,vb] w (RetQR (qI a b) (rI a b) w) := by
  obtain ⟨x,p,l,c,rfl,hx⟩ := ha
  obtain ⟨y,r,m,d,rfl,hy⟩ := hb
  have hn0 : absI b ≠ 0 := by unfold absI; split <;> omega
  have er : ∀ L,lI a b = L → (if decide (b < 0) = true then -L else L) = rI a b := by
    intro L hL
    unfold rI
    rw [hL]
    by_cases h : b < 0 <;> simp [h]
  by_cases hs : sameI a b = true
  · refine div_same K hK (decide (a < 0)) (decide (b < 0)) hs x p l c y r m d _ _ _ _ w hx hy haK hbK hp1 hn0 (Lib.hid ?_) (Lib.hid (er _ ?_))
    · unfold qI; simp [hs]
    · unfold lI; rw [if_pos (.inl hs)]
  · have hs' : (decide (a < 0) == decide (b < 0)) = false := by simpa [sameI] using hs
    by_cases h0 : absI a % absI b = 0
    · refine div_even K hK (decide (a < 0)) (decide (b < 0)) hs' x p l c y r m d _ _ _ _ w hx hy haK hbK hp1 hn0 h0 (Lib.hid ?_) (Lib.hid (er _ ?_))
      · unfold qI; rw [if_neg hs,if_pos h0]; simp
      · unfold lI; rw [if_pos (.inr h0)]
    · have hpos : 0 < absI a % absI b := by
        have := Int.emod_nonneg (absI a) hn0
        omega
      refine div_more K hK (decide (a < 0)) (decide (b < 0)) hs' x p l c y r m d _ _ _ _ w hx hy haK hbK hp1 hn0 hpos (Lib.hid ?_) (Lib.hid (er _ ?_))
      · unfold qI; rw [if_neg hs,if_neg h0]; simp
      · unfold lI; rw [if_neg (by rintro (h | h); exact hs h; exact h0 h)]
end Go.Proofs.YtgccgacpifebbaaGreatDoor
namespace Go.Proofs.YtgccgacpifebbaaGreatDoor
open Go.RowKit
set_option linter.unusedVariables false
set_option maxRecDepth 100000 in
set_option maxHeartbeats 2000000 in
theorem div0_int (v : Value) (a : Int) (w : World) (ha : IsInt w v a) : Calls Tryz.prog 26 #[v,.agg #[.bool false,.int .u64 0,.slice none 0 0]] w fun e w' => e = .returned (.tuple #[.agg #[.bool false,.int .u64 0,.slice none 0 0],.agg #[.bool false,.int .u64 0,.slice none 0 0],.bool false]) ∧ Below w.heap.size w w' := by
  obtain ⟨x,p,l,c,rfl,hx⟩ := ha
  generalize decide (a < 0) = A
  have mm := fun W (g1 : IsNat W (.agg #[.int .u64 x,.slice p l c]) (absI a)) => div_zero _ _ W g1
  have hW : Below w.heap.size w ((((w.alloc (.cells #[.bool A,.int .u64 x,.slice p l c] 28)).alloc (.cells #[.bool false,.int .u64 0,.slice none 0 0] 28)).alloc (.cells #[.bool false,.int .u64 0,.slice none 0 0] 28)).alloc (.cells #[.bool false,.int .u64 0,.slice none 0 0] 28)) := by go_grown
  have ra := (((Row3.new w (.bool A) (.int .u64 x) (.slice p l c) w.heap.size rfl).alloc (.cells #[.bool false,.int .u64 0,.slice none 0 0] 28)).alloc (.cells #[.bool false,.int .u64 0,.slice none 0 0] 28)).alloc (.cells #[.bool false,.int .u64 0,.slice none 0 0] 28)
  have rb := ((Row3.new (w.alloc (.cells #[.bool A,.int .u64 x,.slice p l c] 28)) (.bool false) (.int .u64 0) (.slice none 0 0) (w.heap.size + 1) (by simp)).alloc (.cells #[.bool false,.int .u64 0,.slice none 0 0] 28)).alloc (.cells #[.bool false,.int .u64 0,.slice none 0 0] 28)
  have r4 := (Row3.new ((w.alloc (.cells #[.bool A,.int .u64 x,.slice p l c] 28)).alloc (.cells #[.bool false,.int .u64 0,.slice none 0 0] 28)) (.bool false) (.int .u64 0) (.slice none 0 0) (w.heap.size + 1 + 1) (by simp)).alloc (.cells #[.bool false,.int .u64 0,.slice none 0 0] 28)
  have r5 := Row3.new (((w.alloc (.cells #[.bool A,.int .u64 x,.slice p l c] 28)).alloc (.cells #[.bool false,.int .u64 0,.slice none 0 0] 28)).alloc (.cells #[.bool false,.int .u64 0,.slice none 0 0] 28)) (.bool false) (.int .u64 0) (.slice none 0 0) (w.heap.size + 1 + 1 + 1) (by simp)
  replace hx := hx.below hW
  go_enter Tryz.func26,Tryz.ntmps26
  have a1 := ra.cell1
  have a2 := ra.cell2
  have b1 := rb.cell1
  have b2 := rb.cell2
  go_wp2_with fail
  generalize ((((w.alloc (.cells #[.bool A,.int .u64 x,.slice p l c] 28)).alloc (.cells #[.bool false,.int .u64 0,.slice none 0 0] 28)).alloc (.cells #[.bool false,.int .u64 0,.slice none 0 0] 28)).alloc (.cells #[.bool false,.int .u64 0,.slice none 0 0] 28)) = W at hW ra rb r4 r5 hx ⊢
  clear a1 a2 b1 b2
  obtain ⟨q,hq⟩ : ∃ q,w.heap.size = q := ⟨_,rfl⟩
  rw [hq] at ra rb r4 r5 ⊢
  refine (mm W hx).mono ?_
  rintro e wa ⟨rfl,hb⟩
  have hB : Below wa.heap.size wa ((wa.alloc (.cells #[.int .u64 0,.slice none 0 0] 26)).alloc (.cells #[.int .u64 0,.slice none 0 0] 26)) := by go_grown
  replace hb := hb.trans (hB.mono hb.size)
  replace hW := hW.trans (hb.mono hW.size)
  replace r4 := r4.below hb r4.lt
  replace r5 := r5.below hb r5.lt
  clear hb hB ra rb hx mm
  have c0 := r4.cell0
  have c1 := r4.cell1
  have c2 := r4.cell2
  have d0 := r5.cell0
  have d1 := r5.cell1
  have d2 := r5.cell2
  have f0 := r4.free 0
  have f1 := r4.free 1
  have f2 := r4.free 2
  have g0 := r5.free 0
  have g1 := r5.free 1
  have g2 := r5.free 2
  have e4 := (((r4.set3 (.bool false) (.int .u64 0) (.slice none 0 0)).other (a := ⟨q + 1 + 1 + 1,0,none⟩) (by show q + 1 + 1 ≠ q + 1 + 1 + 1; omega) (.bool false)).other (a := ⟨q + 1 + 1 + 1,1,none⟩) (by show q + 1 + 1 ≠ q + 1 + 1 + 1; omega) (.int .u64 0)).other (a := ⟨q + 1 + 1 + 1,2,none⟩) (by show q + 1 + 1 ≠ q + 1 + 1 + 1; omega) (.slice none 0 0)
  have e5 := (((r5.other (a := ⟨q + 1 + 1,0,none⟩) (by show q + 1 + 1 + 1 ≠ q + 1 + 1; omega) (.bool false)).other (a := ⟨q + 1 + 1,1,none⟩) (by show q + 1 + 1 + 1 ≠ q + 1 + 1; omega) (.int .u64 0)).other (a := ⟨q + 1 + 1,2,none⟩) (by show q + 1 + 1 + 1 ≠ q + 1 + 1; omega) (.slice none 0 0)).set3 (.bool false) (.int .u64 0) (.slice none 0 0)
  have hw4 : w.heap.size ≤ q + 1 + 1 := by omega
  have hw5 : w.heap.size ≤ q + 1 + 1 + 1 := by omega
  have hE := (((((hW.setCell (p := ⟨q + 1 + 1,0,none⟩) hw4 (.bool false)).setCell (p := ⟨q + 1 + 1,1,none⟩) hw4 (.int .u64 0)).setCell (p := ⟨q + 1 + 1,2,none⟩) hw4 (.slice none 0 0)).setCell (p := ⟨q + 1 + 1 + 1,0,none⟩) hw5 (.bool false)).setCell (p := ⟨q + 1 + 1 + 1,1,none⟩) hw5 (.int .u64 0)).setCell (p := ⟨q + 1 + 1 + 1,2,none⟩) hw5 (.slice none 0 0)
  go_wp2_with fail
  refine bodyPost_ret (v := .tuple #[.agg #[.bool false,.int .u64 0,.slice none 0 0],.agg #[.bool false,.int .u64 0,.slice none 0 0],.bool false]) ?_ rfl ⟨rfl,hE⟩
  simp [results,Tryz.results26,asAddr,run_loadVar_int e4,run_loadVar_int e5]
/-- The quotient,whatever the divisor; 0 by 0. -/
def qD (a b : Int) : Int := if b = 0 then 0 else qI a b
def rD (a b : Int) : Int := if b = 0 then 0 else rI a b
end Go.Proofs.YtgccgacpifebbaaGreatDoor
