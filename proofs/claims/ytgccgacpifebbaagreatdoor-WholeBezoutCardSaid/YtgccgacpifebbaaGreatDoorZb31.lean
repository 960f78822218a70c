/- WhoE -/
import Derived.Test.YtgccgacpifebbaaGreatDoorZb24
namespace Go.Proofs.YtgccgacpifebbaaGreatDoor
open Go.RowKit
set_option linter.unusedVariables false
set_option maxRecDepth 100000 in
set_option maxHeartbeats 4000000 in
theorem add_same_false (K : Nat) (hK : K ≤ 4294967296) (x : Int) (p : Option Addr) (l c : Nat) (y : Int) (r : Option Addr) (m d : Nat) (n1 n2 R : Int) (w : World) (hx : IsNat w (.agg #[.int .u64 x,.slice p l c]) n1) (hy : IsNat w (.agg #[.int .u64 y,.slice r m d]) n2) (h1K : n1 < pw K) (h2K : n2 < pw K) (hR : Hid (decide (R < 0) = false)) (eN : Hid (absI R = n1 + n2)) : Calls Tryz.prog 20 #[.agg #[.bool false,.int .u64 x,.slice p l c],.agg #[.bool false,.int .u64 y,.slice r m d]] w (RetInt R w) := by
  have mm := fun W (g1 : IsNat W (.agg #[.int .u64 x,.slice p l c]) n1) (g2 : IsNat W (.agg #[.int .u64 y,.slice r m d]) n2) => add_any K hK _ _ _ _ W g1 g2 h1K h2K
  have hW : Below w.heap.size w (((w.alloc (.cells #[.bool false,.int .u64 x,.slice p l c] 28)).alloc (.cells #[.bool false,.int .u64 y,.slice r m d] 28)).alloc (.cells #[.bool false,.int .u64 0,.slice none 0 0] 28)) := by go_grown
  have ra := ((Row3.new w (.bool false) (.int .u64 x) (.slice p l c) w.heap.size rfl).alloc (.cells #[.bool false,.int .u64 y,.slice r m d] 28)).alloc (.cells #[.bool false,.int .u64 0,.slice none 0 0] 28)
  have rb := (Row3.new (w.alloc (.cells #[.bool false,.int .u64 x,.slice p l c] 28)) (.bool false) (.int .u64 y) (.slice r m d) (w.heap.size + 1) (by simp)).alloc (.cells #[.bool false,.int .u64 0,.slice none 0 0] 28)
  have rr := Row3.new ((w.alloc (.cells #[.bool false,.int .u64 x,.slice p l c] 28)).alloc (.cells #[.bool false,.int .u64 y,.slice r m d] 28)) (.bool false) (.int .u64 0) (.slice none 0 0) (w.heap.size + 1 + 1) (by simp)
  have hnx := hx.below hW
  have hny := hy.below hW
  have wsz : w.heap.size + 3 ≤ (((w.alloc (.cells #[.bool false,.int .u64 x,.slice p l c] 28)).alloc (.cells #[.bool false,.int .u64 y,.slice r m d] 28)).alloc (.cells #[.bool false,.int .u64 0,.slice none 0 0] 28)).heap.size := by have := rr.lt; omega
  go_enter Tryz.func20,Tryz.ntmps20
  go_wp2_with fail
  generalize (((w.alloc (.cells #[.bool false,.int .u64 x,.slice p l c] 28)).alloc (.cells #[.bool false,.int .u64 y,.slice r m d] 28)).alloc (.cells #[.bool false,.int .u64 0,.slice none 0 0] 28)) = W at hW ra rb rr hnx hny wsz ⊢
  obtain ⟨q,hq⟩ : ∃ q,w.heap.size = q := ⟨_,rfl⟩
  have hqw : w.heap.size ≤ q + 1 + 1 := by omega
  rw [hq] at ra rb rr wsz ⊢
  have z0 : q < q + 3 := by omega
  have z1 : q + 1 < q + 3 := by omega
  have z2 : q + 1 + 1 < q + 3 := by omega
  have d0 : q ≠ q + 1 + 1 := by omega
  have d1 : q + 1 ≠ q + 1 + 1 := by omega
  have acc := Below.refl (q + 3) W
  have hnxd : IsNat W.drew (.agg #[.int .u64 x,.slice p l c]) n1 := hnx
  have hnyd : IsNat W.drew (.agg #[.int .u64 y,.slice r m d]) n2 := hny
  have a0 := (ra.below acc z0).cell0
  have a1 := (ra.below acc z0).cell1
  have a2 := (ra.below acc z0).cell2
  have b0 := (rb.below acc z1).cell0
  have b1 := (rb.below acc z1).cell1
  have b2 := (rb.below acc z1).cell2
  have c0 := (rr.below acc z2).cell0
  have c1 := (rr.below acc z2).cell1
  have c2 := (rr.below acc z2).cell2
  have f0 := (rr.below acc z2).free 0
  have f1 := (rr.below acc z2).free 1
  have f2 := (rr.below acc z2).free 2
  go_region_held3 (fun w' => w'.cell? ⟨q,0,none⟩ = some (.bool false) ∧ w'.cell? ⟨q,1,none⟩ = some (.int .u64 x) ∧ w'.cell? ⟨q,2,none⟩ = some (.slice p l c) ∧ w'.cell? ⟨q + 1,0,none⟩ = some (.bool false) ∧ w'.cell? ⟨q + 1,1,none⟩ = some (.int .u64 y) ∧ w'.cell? ⟨q + 1,2,none⟩ = some (.slice r m d))
    (first | with_reducible exact ⟨(ra.below acc z0).cell0,(ra.below acc z0).cell1,(ra.below acc z0).cell2,(rb.below acc z1).cell0,(rb.below acc z1).cell1,(rb.below acc z1).cell2⟩ | with_reducible exact ⟨(ra.below acc z0).drew.cell0,(ra.below acc z0).drew.cell1,(ra.below acc z0).drew.cell2,(rb.below acc z1).drew.cell0,(rb.below acc z1).drew.cell1,(rb.below acc z1).drew.cell2⟩ | with_reducible exact ⟨((((ra.below acc z0).other (a := ⟨q + 1 + 1,0,none⟩) d0 _).other (a := ⟨q + 1 + 1,1,none⟩) d0 _).other (a := ⟨q + 1 + 1,2,none⟩) d0 _).cell0,((((ra.below acc z0).other (a := ⟨q + 1 + 1,0,none⟩) d0 _).other (a := ⟨q + 1 + 1,1,none⟩) d0 _).other (a := ⟨q + 1 + 1,2,none⟩) d0 _).cell1,((((ra.below acc z0).other (a := ⟨q + 1 + 1,0,none⟩) d0 _).other (a := ⟨q + 1 + 1,1,none⟩) d0 _).other (a := ⟨q + 1 + 1,2,none⟩) d0 _).cell2,((((rb.below acc z1).other (a := ⟨q + 1 + 1,0,none⟩) d1 _).other (a := ⟨q + 1 + 1,1,none⟩) d1 _).other (a := ⟨q + 1 + 1,2,none⟩) d1 _).cell0,((((rb.below acc z1).other (a := ⟨q + 1 + 1,0,none⟩) d1 _).other (a := ⟨q + 1 + 1,1,none⟩) d1 _).other (a := ⟨q + 1 + 1,2,none⟩) d1 _).cell1,((((rb.below acc z1).other (a := ⟨q + 1 + 1,0,none⟩) d1 _).other (a := ⟨q + 1 + 1,1,none⟩) d1 _).other (a := ⟨q + 1 + 1,2,none⟩) d1 _).cell2⟩)
    (first
      | (go_at_call 53; (first | (have q1 := mm W hnx hny; (with_reducible refine q1.mono ?_); clear q1) | (have q1 := mm W.drew hnxd hnyd; (with_reducible refine q1.mono ?_); clear q1)); rintro e wa ⟨v1,rfl,hs1,hb⟩; (first | replace hb : Below W.heap.size W wa := hb | replace hb := below_undrew (w := W) hb); replace acc := acc.trans (hb.mono (Nat.le_trans wsz acc.size)); obtain ⟨x1,p1,l1,k1,rfl⟩ := hs1.shape; have a0 := (ra.below acc z0).cell0; have a1 := (ra.below acc z0).cell1; have a2 := (ra.below acc z0).cell2; have b0 := (rb.below acc z1).cell0; have b1 := (rb.below acc z1).cell1; have b2 := (rb.below acc z1).cell2; have c0 := (rr.below acc z2).cell0; have c1 := (rr.below acc z2).cell1; have c2 := (rr.below acc z2).cell2; have f0 := (rr.below acc z2).free 0; have f1 := (rr.below acc z2).free 1; have f2 := (rr.below acc z2).free 2; clear hb))
  all_goals
    have hbw := hW.trans (acc.mono (by have := hW.size; omega))
    have r2 := rr.below acc z2
    have g3 := r2.set3 (.bool false) (.int .u64 x1) (.slice p1 l1 k1)
    have hB3 := ((hbw.setCell (p := ⟨q + 1 + 1,0,none⟩) hqw (.bool false)).setCell (p := ⟨q + 1 + 1,1,none⟩) hqw (.int .u64 x1)).setCell (p := ⟨q + 1 + 1,2,none⟩) hqw (.slice p1 l1 k1)
    go_wp2_with fail
    exact bodyPost_int Tryz.results20 rfl rfl g3 hR.out.symm (by rw [eN.out]; exact hs1.row3 r2 _ _ _) hB3
set_option maxRecDepth 100000 in
set_option maxHeartbeats 4000000 in
theorem add_same_true (K : Nat) (hK : K ≤ 4294967296) (x : Int) (p : Option Addr) (l c : Nat) (y : Int) (r : Option Addr) (m d : Nat) (n1 n2 R : Int) (w : World) (hx : IsNat w (.agg #[.int .u64 x,.slice p l c]) n1) (hy : IsNat w (.agg #[.int .u64 y,.slice r m d]) n2) (h1K : n1 < pw K) (h2K : n2 < pw K) (hR : Hid (decide (R < 0) = true)) (eN : Hid (absI R = n1 + n2)) : Calls Tryz.prog 20 #[.agg #[.bool true,.int .u64 x,.slice p l c],.agg #[.bool true,.int .u64 y,.slice r m d]] w (RetInt R w) := by
  have mm := fun W (g1 : IsNat W (.agg #[.int .u64 x,.slice p l c]) n1) (g2 : IsNat W (.agg #[.int .u64 y,.slice r m d]) n2) => add_any K hK _ _ _ _ W g1 g2 h1K h2K
  have hW : Below w.heap.size w (((w.alloc (.cells #[.bool true,.int .u64 x,.slice p l c] 28)).alloc (.cells #[.bool true,.int .u64 y,.slice r m d] 28)).alloc (.cells #[.bool false,.int .u64 0,.slice none 0 0] 28)) := by go_grown
  have ra := ((Row3.new w (.bool true) (.int .u64 x) (.slice p l c) w.heap.size rfl).alloc (.cells #[.bool true,.int .u64 y,.slice r m d] 28)).alloc (.cells #[.bool false,.int .u64 0,.slice none 0 0] 28)
  have rb := (Row3.new (w.alloc (.cells #[.bool true,.int .u64 x,.slice p l c] 28)) (.bool true) (.int .u64 y) (.slice r m d) (w.heap.size + 1) (by simp)).alloc (.cells #[.bool false,.int .u64 0,.slice none 0 0] 28)
  have rr := Row3.new ((w.alloc (.cells #[.bool true,.int .u64 x,.slice p l c] 28)).alloc (.cells #[.bool true,.int .u64 y,.slice r m d] 28)) (.bool false) (.int .u64 0) (.slice none 0 0) (w.heap.size + 1 + 1) (by simp)
  have hnx := hx.below hW
  have hny := hy.below hW
  have wsz : w.heap.size + 3 ≤ (((w.alloc (.cells #[.bool true,.int .u64 x,.slice p l c] 28)).alloc (.cells #[.bool true,.int .u64 y,.slice r m d] 28)).alloc (.cells #[.bool false,.int .u64 0,.slice none 0 0] 28)).heap.size := by have := rr.lt; omega
  go_enter Tryz.func20,Tryz.ntmps20
  go_wp2_with fail
  generalize (((w.alloc (.cells #[.bool true,.int .u64 x,.slice p l c] 28)).alloc (.cells #[.bool true,.int .u64 y,.slice r m d] 28)).alloc (.cells #[.bool false,.int .u64 0,.slice none 0 0] 28)) = W at hW ra rb rr hnx hny wsz ⊢
  obtain ⟨q,hq⟩ : ∃ q,w.heap.size = q := ⟨_,rfl⟩
  have hqw : w.heap.size ≤ q + 1 + 1 := by omega
  rw [hq] at ra rb rr wsz ⊢
  have z0 : q < q + 3 := by omega
  have z1 : q + 1 < q + 3 := by omega
  have z2 : q + 1 + 1 < q + 3 := by omega
  have d0 : q ≠ q + 1 + 1 := by omega
  have d1 : q + 1 ≠ q + 1 + 1 := by omega
  have acc := Below.refl (q + 3) W
  have hnxd : IsNat W.drew (.agg #[.int .u64 x,.slice p l c]) n1 := hnx
  have hnyd : IsNat W.drew (.agg #[.int .u64 y,.slice r m d]) n2 := hny
  have a0 := (ra.below acc z0).cell0
  have a1 := (ra.below acc z0).cell1
  have a2 := (ra.below acc z0).cell2
  have b0 := (rb.below acc z1).cell0
  have b1 := (rb.below acc z1).cell1
  have b2 := (rb.below acc z1).cell2
  have c0 := (rr.below acc z2).cell0
  have c1 := (rr.below acc z2).cell1
  have c2 := (rr.below acc z2).cell2
  have f0 := (rr.below acc z2).free 0
  have f1 := (rr.below acc z2).free 1
  have f2 := (rr.below acc z2).free 2
  go_region_held3 (fun w' => w'.cell? ⟨q,0,none⟩ = some (.bool true) ∧ w'.cell? ⟨q,1,none⟩ = some (.int .u64 x) ∧ w'.cell? ⟨q,2,none⟩ = some (.slice p l c) ∧ w'.cell? ⟨q + 1,0,none⟩ = some (.bool true) ∧ w'.cell? ⟨q + 1,1,none⟩ = some (.int .u64 y) ∧ w'.cell? ⟨q + 1,2,none⟩ = some (.slice r m d))
    (first | with_reducible exact ⟨(ra.below acc z0).cell0,(ra.below acc z0).cell1,(ra.below acc z0).cell2,(rb.below acc z1).cell0,(rb.below acc z1).cell1,(rb.below acc z1).cell2⟩ | with_reducible exact ⟨(ra.below acc z0).drew.cell0,(ra.below acc z0).drew.cell1,(ra.below acc z0).drew.cell2,(rb.below acc z1).drew.cell0,(rb.below acc z1).drew.cell1,(rb.below acc z1).drew.cell2⟩ | with_reducible exact ⟨((((ra.below acc z0).other (a := ⟨q + 1 + 1,0,none⟩) d0 _).other (a := ⟨q + 1 + 1,1,none⟩) d0 _).other (a := ⟨q + 1 + 1,2,none⟩) d0 _).cell0,((((ra.below acc z0).other (a := ⟨q + 1 + 1,0,none⟩) d0 _).other (a := ⟨q + 1 + 1,1,none⟩) d0 _).other (a := ⟨q + 1 + 1,2,none⟩) d0 _).cell1,((((ra.below acc z0).other (a := ⟨q + 1 + 1,0,none⟩) d0 _).other (a := ⟨q + 1 + 1,1,none⟩) d0 _).other (a := ⟨q + 1 + 1,2,none⟩) d0 _).cell2,((((rb.below acc z1).other (a := ⟨q + 1 + 1,0,none⟩) d1 _).other (a := ⟨q + 1 + 1,1,none⟩) d1 _).other (a := ⟨q + 1 + 1,2,none⟩) d1 _).cell0,((((rb.below acc z1).other (a := ⟨q + 1 + 1,0,none⟩) d1 _).other (a := ⟨q + 1 + 1,1,none⟩) d1 _).other (a := ⟨q + 1 + 1,2,none⟩) d1 _).cell1,((((rb.below acc z1).other (a := ⟨q + 1 + 1,0,none⟩) d1 _).other (a := ⟨q + 1 + 1,1,none⟩) d1 _).other (a := ⟨q + 1 + 1,2,none⟩) d1 _).cell2⟩)
    (first
      | (go_at_call 53; (first | (have q1 := mm W hnx hny; (with_reducible refine q1.mono ?_); clear q1) | (have q1 := mm W.drew hnxd hnyd; (with_reducible refine q1.mono ?_); clear q1)); rintro e wa ⟨v1,rfl,hs1,hb⟩; (first | replace hb : Below W.heap.size W wa := hb | replace hb := below_undrew (w := W) hb); replace acc := acc.trans (hb.mono (Nat.le_trans wsz acc.size)); obtain ⟨x1,p1,l1,k1,rfl⟩ := hs1.shape; have a0 := (ra.below acc z0).cell0; have a1 := (ra.below acc z0).cell1; have a2 := (ra.below acc z0).cell2; have b0 := (rb.below acc z1).cell0; have b1 := (rb.below acc z1).cell1; have b2 := (rb.below acc z1).cell2; have c0 := (rr.below acc z2).cell0; have c1 := (rr.below acc z2).cell1; have c2 := (rr.below acc z2).cell2; have f0 := (rr.below acc z2).free 0; have f1 := (rr.below acc z2).free 1; have f2 := (rr.below acc z2).free 2; clear hb))
  all_goals
    have hbw := hW.trans (acc.mono (by have := hW.size; omega))
    have r2 := rr.below acc z2
    have g3 := r2.set3 (.bool true) (.int .u64 x1) (.slice p1 l1 k1)
    have hB3 := ((hbw.setCell (p := ⟨q + 1 + 1,0,none⟩) hqw (.bool true)).setCell (p := ⟨q + 1 + 1,1,none⟩) hqw (.int .u64 x1)).setCell (p := ⟨q + 1 + 1,2,none⟩) hqw (.slice p1 l1 k1)
    go_wp2_with fail
    exact bodyPost_int Tryz.results20 rfl rfl g3 hR.out.symm (by rw [eN.out]; exact hs1.row3 r2 _ _ _) hB3
set_option maxRecDepth 100000 in
set_option maxHeartbeats 4000000 in
theorem add_more_false (K : Nat) (hK : 1 ≤ K) (hK2 : K ≤ 4294967296) (x : Int) (p : Option Addr) (l c : Nat) (y : Int) (r : Option Addr) (m d : Nat) (n1 n2 R : Int) (w : World) (hx : IsNat w (.agg #[.int .u64 x,.slice p l c]) n1) (hy : IsNat w (.agg #[.int .u64 y,.slice r m d]) n2) (h1K : n1 < pw K) (hle : n2 ≤ n1) (eN : Hid ((if false = true then -(n1 - n2) else n1 - n2) = R)) : Calls Tryz.prog 20 #[.agg #[.bool false,.int .u64 x,.slice p l c],.agg #[.bool true,.int .u64 y,.slice r m d]] w (RetInt R w) := by
  have mm := fun W (g1 : IsNat W (.agg #[.int .u64 x,.slice p l c]) n1) (g2 : IsNat W (.agg #[.int .u64 y,.slice r m d]) n2) => sub_any K hK hK2 _ _ _ _ W g1 g2 h1K hle
  have fr := fun v W (g : IsNat W v (n1 - n2)) => from_int false v (n1 - n2) W g
  rw [eN.out] at fr
  clear eN hle
  have hW : Below w.heap.size w (((w.alloc (.cells #[.bool false,.int .u64 x,.slice p l c] 28)).alloc (.cells #[.bool true,.int .u64 y,.slice r m d] 28)).alloc (.cells #[.bool false,.int .u64 0,.slice none 0 0] 28)) := by go_grown
  have ra := ((Row3.new w (.bool false) (.int .u64 x) (.slice p l c) w.heap.size rfl).alloc (.cells #[.bool true,.int .u64 y,.slice r m d] 28)).alloc (.cells #[.bool false,.int .u64 0,.slice none 0 0] 28)
  have rb := (Row3.new (w.alloc (.cells #[.bool false,.int .u64 x,.slice p l c] 28)) (.bool true) (.int .u64 y) (.slice r m d) (w.heap.size + 1) (by simp)).alloc (.cells #[.bool false,.int .u64 0,.slice none 0 0] 28)
  have rr := Row3.new ((w.alloc (.cells #[.bool false,.int .u64 x,.slice p l c] 28)).alloc (.cells #[.bool true,.int .u64 y,.slice r m d] 28)) (.bool false) (.int .u64 0) (.slice none 0 0) (w.heap.size + 1 + 1) (by simp)
  have hnx := hx.below hW
  have hny := hy.below hW
  have wsz : w.heap.size + 3 ≤ (((w.alloc (.cells #[.bool false,.int .u64 x,.slice p l c] 28)).alloc (.cells #[.bool true,.int .u64 y,.slice r m d] 28)).alloc (.cells #[.bool false,.int .u64 0,.slice none 0 0] 28)).heap.size := by have := rr.lt; omega
  go_enter Tryz.func20,Tryz.ntmps20
  go_wp2_with fail
  generalize (((w.alloc (.cells #[.bool false,.int .u64 x,.slice p l c] 28)).alloc (.cells #[.bool true,.int .u64 y,.slice r m d] 28)).alloc (.cells #[.bool false,.int .u64 0,.slice none 0 0] 28)) = W at hW ra rb rr hnx hny wsz ⊢
  obtain ⟨q,hq⟩ : ∃ q,w.heap.size = q := ⟨_,rfl⟩
  have hqw : w.heap.size ≤ q + 1 + 1 := by omega
  rw [hq] at ra rb rr wsz ⊢
  have z0 : q < q + 3 := by omega
  have z1 : q + 1 < q + 3 := by omega
  have z2 : q + 1 + 1 < q + 3 := by omega
  have d0 : q ≠ q + 1 + 1 := by omega
  have d1 : q + 1 ≠ q + 1 + 1 := by omega
  have acc := Below.refl (q + 3) W
  refine (mm W hnx hny).mono ?_
  rintro e wa ⟨v1,rfl,hs1,hb⟩
  obtain ⟨x1,p1,l1,k1,rfl⟩ := hs1.shape
  replace acc := acc.trans (hb.mono wsz)
  have hv := Var.new wa wa.heap.size (.int .u64 x1) p1 l1 k1 rfl
  have ba : Below wa.heap.size wa (wa.alloc (.cells #[.int .u64 x1,.slice p1 l1 k1] 26)) := by go_grown
  have wsa : q + 3 ≤ wa.heap.size := Nat.le_trans wsz acc.size
  replace acc := acc.trans (ba.mono wsa)
  replace hs1 := hs1.below ba
  have h0 := hv.c0
  have h1 := hv.c1
  have a0 := (ra.below acc z0).cell0
  have a1 := (ra.below acc z0).cell1
  have a2 := (ra.below acc z0).cell2
  have b0 := (rb.below acc z1).cell0
  have b1 := (rb.below acc z1).cell1
  have b2 := (rb.below acc z1).cell2
  have c0 := (rr.below acc z2).cell0
  have c1 := (rr.below acc z2).cell1
  have c2 := (rr.below acc z2).cell2
  have f0 := (rr.below acc z2).free 0
  have f1 := (rr.below acc z2).free 1
  have f2 := (rr.below acc z2).free 2
  go_wp2_with fail
  generalize (wa.alloc (.cells #[.int .u64 x1,.slice p1 l1 k1] 26)) = wc at acc hs1 ⊢
  clear h0 h1 a0 a1 a2 b0 b1 b2 c0 c1 c2 f0 f1 f2 hv ba
  refine (fr _ wc hs1).mono ?_
  rintro e wb ⟨v2,rfl,⟨x2,p2,l2,k2,rfl,hn2⟩,hb2⟩
  have wsc : q + 3 ≤ wc.heap.size := Nat.le_trans wsz acc.size
  replace acc := acc.trans (hb2.mono wsc)
  have r2 := rr.below acc z2
  generalize hD : decide (R < 0) = D at *
  have g3 := r2.set3 (.bool D) (.int .u64 x2) (.slice p2 l2 k2)
  have hbw := hW.trans (acc.mono (by have := hW.size; omega))
  have hB3 := ((hbw.setCell (p := ⟨q + 1 + 1,0,none⟩) hqw (.bool D)).setCell (p := ⟨q + 1 + 1,1,none⟩) hqw (.int .u64 x2)).setCell (p := ⟨q + 1 + 1,2,none⟩) hqw (.slice p2 l2 k2)
  have c0 := r2.cell0
  have c1 := r2.cell1
  have c2 := r2.cell2
  have f0 := r2.free 0
  have f1 := r2.free 1
  have f2 := r2.free 2
  have HD := Lib.hid hD
  clear hD
  go_wp2_with fail
  exact bodyPost_int Tryz.results20 rfl rfl g3 HD.out.symm (hn2.row3 r2 _ _ _) hB3
set_option maxRecDepth 100000 in
set_option maxHeartbeats 4000000 in
theorem add_more_true (K : Nat) (hK : 1 ≤ K) (hK2 : K ≤ 4294967296) (x : Int) (p : Option Addr) (l c : Nat) (y : Int) (r : Option Addr) (m d : Nat) (n1 n2 R : Int) (w : World) (hx : IsNat w (.agg #[.int .u64 x,.slice p l c]) n1) (hy : IsNat w (.agg #[.int .u64 y,.slice r m d]) n2) (h1K : n1 < pw K) (hle : n2 ≤ n1) (eN : Hid ((if true = true then -(n1 - n2) else n1 - n2) = R)) : Calls Tryz.prog 20 #[.agg #[.bool true,.int .u64 x,.slice p l c],.agg #[.bool false,.int .u64 y,.slice r m d]] w (RetInt R w) := by
  have mm := fun W (g1 : IsNat W (.agg #[.int .u64 x,.slice p l c]) n1) (g2 : IsNat W (.agg #[.int .u64 y,.slice r m d]) n2) => sub_any K hK hK2 _ _ _ _ W g1 g2 h1K hle
  have fr := fun v W (g : IsNat W v (n1 - n2)) => from_int true v (n1 - n2) W g
  rw [eN.out] at fr
  clear eN hle
  have hW : Below w.heap.size w (((w.alloc (.cells #[.bool true,.int .u64 x,.slice p l c] 28)).alloc (.cells #[.bool false,.int .u64 y,.slice r m d] 28)).alloc (.cells #[.bool false,.int .u64 0,.slice none 0 0] 28)) := by go_grown
  have ra := ((Row3.new w (.bool true) (.int .u64 x) (.slice p l c) w.heap.size rfl).alloc (.cells #[.bool false,.int .u64 y,.slice r m d] 28)).alloc (.cells #[.bool false,.int .u64 0,.slice none 0 0] 28)
  have rb := (Row3.new (w.alloc (.cells #[.bool true,.int .u64 x,.slice p l c] 28)) (.bool false) (.int .u64 y) (.slice r m d) (w.heap.size + 1) (by simp)).alloc (.cells #[.bool false,.int .u64 0,.slice none 0 0] 28)
  have rr := Row3.new ((w.alloc (.cells #[.bool true,.int .u64 x,.slice p l c] 28)).alloc (.cells #[.bool false,.int .u64 y,.slice r m d] 28)) (.bool false) (.int .u64 0) (.slice none 0 0) (w.heap.size + 1 + 1) (by simp)
  have hnx := hx.below hW
  have hny := hy.below hW
  have wsz : w.heap.size + 3 ≤ (((w.alloc (.cells #[.bool true,.int .u64 x,.slice p l c] 28)).alloc (.cells #[.bool false,.int .u64 y,.slice r m d] 28)).alloc (.cells #[.bool false,.int .u64 0,.slice none 0 0] 28)).heap.size := by have := rr.lt; omega
  go_enter Tryz.func20,Tryz.ntmps20
  go_wp2_with fail
  generalize (((w.alloc (.cells #[.bool true,.int .u64 x,.slice p l c] 28)).alloc (.cells #[.bool false,.int .u64 y,.slice r m d] 28)).alloc (.cells #[.bool false,.int .u64 0,.slice none 0 0] 28)) = W at hW ra rb rr hnx hny wsz ⊢
  obtain ⟨q,hq⟩ : ∃ q,w.heap.size = q := ⟨_,rfl⟩
  have hqw : w.heap.size ≤ q + 1 + 1 := by omega
  rw [hq] at ra rb rr wsz ⊢
  have z0 : q < q + 3 := by omega
  have z1 : q + 1 < q + 3 := by omega
  have z2 : q + 1 + 1 < q + 3 := by omega
  have d0 : q ≠ q + 1 + 1 := by omega
  have d1 : q + 1 ≠ q + 1 + 1 := by omega
  have acc := Below.refl (q + 3) W
  refine (mm W hnx hny).mono ?_
  rintro e wa ⟨v1,rfl,hs1,hb⟩
  obtain ⟨x1,p1,l1,k1,rfl⟩ := hs1.shape
  replace acc := acc.trans (hb.mono wsz)
  have hv := Var.new wa wa.heap.size (.int .u64 x1) p1 l1 k1 rfl
  have ba : Below wa.heap.size wa (wa.alloc (.cells #[.int .u64 x1,.slice p1 l1 k1] 26)) := by go_grown
  have wsa : q + 3 ≤ wa.heap.size := Nat.le_trans wsz acc.size
  replace acc := acc.trans (ba.mono wsa)
  replace hs1 := hs1.below ba
  have h0 := hv.c0
  have h1 := hv.c1
  have a0 := (ra.below acc z0).cell0
  have a1 := (ra.below acc z0).cell1
  have a2 := (ra.below acc z0).cell2
  have b0 := (rb.below acc z1).cell0
  have b1 := (rb.below acc z1).cell1
  have b2 := (rb.below acc z1).cell2
  have c0 := (rr.below acc z2).cell0
  have c1 := (rr.below acc z2).cell1
  have c2 := (rr.below acc z2).cell2
  have f0 := (rr.below acc z2).free 0
  have f1 := (rr.below acc z2).free 1
  have f2 := (rr.below acc z2).free 2
  go_wp2_with fail
  generalize (wa.alloc (.cells #[.int .u64 x1,.slice p1 l1 k1] 26)) = wc at acc hs1 ⊢
  clear h0 h1 a0 a1 a2 b0 b1 b2 c0 c1 c2 f0 f1 f2 hv ba
  refine (fr _ wc hs1).mono ?_
  rintro e wb ⟨v2,rfl,⟨x2,p2,l2,k2,rfl,hn2⟩,hb2⟩
  have wsc : q + 3 ≤ wc.heap.size := Nat.le_trans wsz acc.size
  replace acc := acc.trans (hb2.mono wsc)
  have r2 := rr.below acc z2
  generalize hD : decide (R < 0) = D at *
  have g3 := r2.set3 (.bool D) (.int .u64 x2) (.slice p2 l2 k2)
  have hbw := hW.trans (acc.mono (by have := hW.size; omega))
  have hB3 := ((hbw.setCell (p := ⟨q + 1 + 1,0,none⟩) hqw (.bool D)).setCell (p := ⟨q + 1 + 1,1,none⟩) hqw (.int .u64 x2)).setCell (p := ⟨q + 1 + 1,2,none⟩) hqw (.slice p2 l2 k2)
  have c0 := r2.cell0
  have c1 := r2.cell1
  have c2 := r2.cell2
  have f0 := r2.free 0
  have f1 := r2.free 1
  have f2 := r2.free 2
  have HD := Lib.hid hD
  clear hD
  go_wp2_with fail
  exact bodyPost_int Tryz.results20 rfl rfl g3 HD.out.symm (hn2.row3 r2 _ _ _) hB3
set_option maxRecDepth 100000 in
set_option maxHeartbeats 4000000 in
theorem add_less_false (K : Nat) (hK : 1 ≤ K) (hK2 : K ≤ 4294967296) (x : Int) (p : Option Addr) (l c : Nat) (y : Int) (r : Option Addr) (m d : Nat) (n1 n2 R : Int) (w : World) (hx : IsNat w (.agg #[.int .u64 x,.slice p l c]) n1) (hy : IsNat w (.agg #[.int .u64 y,.slice r m d]) n2) (h2K : n2 < pw K) (hlt : n1 < n2) (hR : Hid (decide (R < 0) = true)) (eN : Hid (absI R = n2 - n1)) : Calls Tryz.prog 20 #[.agg #[.bool false,.int .u64 x,.slice p l c],.agg #[.bool true,.int .u64 y,.slice r m d]] w (RetInt R w) := by
  have mm := fun W (g1 : IsNat W (.agg #[.int .u64 x,.slice p l c]) n1) (g2 : IsNat W (.agg #[.int .u64 y,.slice r m d]) n2) => sub_none _ _ _ _ W g1 g2 hlt
  have mn := fun W (g1 : IsNat W (.agg #[.int .u64 x,.slice p l c]) n1) (g2 : IsNat W (.agg #[.int .u64 y,.slice r m d]) n2) => sub_any K hK hK2 _ _ _ _ W g2 g1 h2K (by omega)
  clear hlt
  have hW : Below w.heap.size w (((w.alloc (.cells #[.bool false,.int .u64 x,.slice p l c] 28)).alloc (.cells #[.bool true,.int .u64 y,.slice r m d] 28)).alloc (.cells #[.bool false,.int .u64 0,.slice none 0 0] 28)) := by go_grown
  have ra := ((Row3.new w (.bool false) (.int .u64 x) (.slice p l c) w.heap.size rfl).alloc (.cells #[.bool true,.int .u64 y,.slice r m d] 28)).alloc (.cells #[.bool false,.int .u64 0,.slice none 0 0] 28)
  have rb := (Row3.new (w.alloc (.cells #[.bool false,.int .u64 x,.slice p l c] 28)) (.bool true) (.int .u64 y) (.slice r m d) (w.heap.size + 1) (by simp)).alloc (.cells #[.bool false,.int .u64 0,.slice none 0 0] 28)
  have rr := Row3.new ((w.alloc (.cells #[.bool false,.int .u64 x,.slice p l c] 28)).alloc (.cells #[.bool true,.int .u64 y,.slice r m d] 28)) (.bool false) (.int .u64 0) (.slice none 0 0) (w.heap.size + 1 + 1) (by simp)
  have hnx := hx.below hW
  have hny := hy.below hW
  have wsz : w.heap.size + 3 ≤ (((w.alloc (.cells #[.bool false,.int .u64 x,.slice p l c] 28)).alloc (.cells #[.bool true,.int .u64 y,.slice r m d] 28)).alloc (.cells #[.bool false,.int .u64 0,.slice none 0 0] 28)).heap.size := by have := rr.lt; omega
  go_enter Tryz.func20,Tryz.ntmps20
  go_wp2_with fail
  generalize (((w.alloc (.cells #[.bool false,.int .u64 x,.slice p l c] 28)).alloc (.cells #[.bool true,.int .u64 y,.slice r m d] 28)).alloc (.cells #[.bool false,.int .u64 0,.slice none 0 0] 28)) = W at hW ra rb rr hnx hny wsz ⊢
  obtain ⟨q,hq⟩ : ∃ q,w.heap.size = q := ⟨_,rfl⟩
  have hqw : w.heap.size ≤ q + 1 + 1 := by omega
  rw [hq] at ra rb rr wsz ⊢
  have z0 : q < q + 3 := by omega
  have z1 : q + 1 < q + 3 := by omega
  have z2 : q + 1 + 1 < q + 3 := by omega
  have d0 : q ≠ q + 1 + 1 := by omega
  have d1 : q + 1 ≠ q + 1 + 1 := by omega
  have acc := Below.refl (q + 3) W
  refine (mm W hnx hny).mono ?_
  rintro e wa ⟨rfl,hb⟩
  have hnxa := hnx.below hb
  have hnya := hny.below hb
  replace acc := acc.trans (hb.mono wsz)
  have ba : Below wa.heap.size wa (wa.alloc (.cells #[.int .u64 0,.slice none 0 0] 26)) := by go_grown
  have wsa : q + 3 ≤ wa.heap.size := Nat.le_trans wsz acc.size
  replace acc := acc.trans (ba.mono wsa)
  replace hnxa := hnxa.below ba
  replace hnya := hnya.below ba
  have a0 := (ra.below acc z0).cell0
  have a1 := (ra.below acc z0).cell1
  have a2 := (ra.below acc z0).cell2
  have b0 := (rb.below acc z1).cell0
  have b1 := (rb.below acc z1).cell1
  have b2 := (rb.below acc z1).cell2
  have c0 := (rr.below acc z2).cell0
  have c1 := (rr.below acc z2).cell1
  have c2 := (rr.below acc z2).cell2
  have f0 := (rr.below acc z2).free 0
  have f1 := (rr.below acc z2).free 1
  have f2 := (rr.below acc z2).free 2
  go_wp2_with fail
  generalize (wa.alloc (.cells #[.int .u64 0,.slice none 0 0] 26)) = wc at acc hnxa hnya ⊢
  clear a0 a1 a2 b0 b1 b2 c0 c1 c2 f0 f1 f2 ba
  refine (mn wc hnxa hnya).mono ?_
  rintro e wd ⟨v1,rfl,hs1,hb2⟩
  obtain ⟨x1,p1,l1,k1,rfl⟩ := hs1.shape
  have wsc : q + 3 ≤ wc.heap.size := Nat.le_trans wsz acc.size
  replace acc := acc.trans (hb2.mono wsc)
  have hv := Var.new wd wd.heap.size (.int .u64 x1) p1 l1 k1 rfl
  have bd : Below wd.heap.size wd (wd.alloc (.cells #[.int .u64 x1,.slice p1 l1 k1] 26)) := by go_grown
  have wsd : q + 3 ≤ wd.heap.size := Nat.le_trans wsz acc.size
  replace acc := acc.trans (bd.mono wsd)
  replace hs1 := hs1.below bd
  have h0 := hv.c0
  have h1 := hv.c1
  have a0 := (ra.below acc z0).cell0
  have a1 := (ra.below acc z0).cell1
  have a2 := (ra.below acc z0).cell2
  have b0 := (rb.below acc z1).cell0
  have b1 := (rb.below acc z1).cell1
  have b2 := (rb.below acc z1).cell2
  have c0 := (rr.below acc z2).cell0
  have c1 := (rr.below acc z2).cell1
  have c2 := (rr.below acc z2).cell2
  have f0 := (rr.below acc z2).free 0
  have f1 := (rr.below acc z2).free 1
  have f2 := (rr.below acc z2).free 2
  have r2 := rr.below acc z2
  have g3 := r2.set3 (.bool true) (.int .u64 x1) (.slice p1 l1 k1)
  have hbw := hW.trans (acc.mono (by have := hW.size; omega))
  have hB3 := ((hbw.setCell (p := ⟨q + 1 + 1,0,none⟩) hqw (.bool true)).setCell (p := ⟨q + 1 + 1,1,none⟩) hqw (.int .u64 x1)).setCell (p := ⟨q + 1 + 1,2,none⟩) hqw (.slice p1 l1 k1)
  go_wp2_with fail
  exact bodyPost_int Tryz.results20 rfl rfl g3 hR.out.symm (by rw [eN.out]; exact hs1.row3 r2 _ _ _) hB3
set_option maxRecDepth 100000 in
set_option maxHeartbeats 4000000 in
theorem add_less_true (K : Nat) (hK : 1 ≤ K) (hK2 : K ≤ 4294967296) (x : Int) (p : Option Addr) (l c : Nat) (y : Int) (r : Option Addr) (m d : Nat) (n1 n2 R : Int) (w : World) (hx : IsNat w (.agg #[.int .u64 x,.slice p l c]) n1) (hy : IsNat w (.agg #[.int .u64 y,.slice r m d]) n2) (h2K : n2 < pw K) (hlt : n1 < n2) (hR : Hid (decide (R < 0) = false)) (eN : Hid (absI R = n2 - n1)) : Calls Tryz.prog 20 #[.agg #[.bool true,.int .u64 x,.slice p l c],.agg #[.bool false,.int .u64 y,.slice r m d]] w (RetInt R w) := by
  have mm := fun W (g1 : IsNat W (.agg #[.int .u64 x,.slice p l c]) n1) (g2 : IsNat W (.agg #[.int .u64 y,.slice r m d]) n2) => sub_none _ _ _ _ W g1 g2 hlt
  have mn := fun W (g1 : IsNat W (.agg #[.int .u64 x,.slice p l c]) n1) (g2 : IsNat W (.agg #[.int .u64 y,.slice r m d]) n2) => sub_any K hK hK2 _ _ _ _ W g2 g1 h2K (by omega)
  clear hlt
  have hW : Below w.heap.size w (((w.alloc (.cells #[.bool true,.int .u64 x,.slice p l c] 28)).alloc (.cells #[.bool false,.int .u64 y,.slice r m d] 28)).alloc (.cells #[.bool false,.int .u64 0,.slice none 0 0] 28)) := by go_grown
  have ra := ((Row3.new w (.bool true) (.int .u64 x) (.slice p l c) w.heap.size rfl).alloc (.cells #[.bool false,.int .u64 y,.slice r m d] 28)).alloc (.cells #[.bool false,.int .u64 0,.slice none 0 0] 28)
  have rb := (Row3.new (w.alloc (.cells #[.bool true,.int .u64 x,.slice p l c] 28)) (.bool false) (.int .u64 y) (.slice r m d) (w.heap.size + 1) (by simp)).alloc (.cells #[.bool false,.int .u64 0,.slice none 0 0] 28)
  have rr := Row3.new ((w.alloc (.cells #[.bool true,.int .u64 x,.slice p l c] 28)).alloc (.cells #[.bool false,.int .u64 y,.slice r m d] 28)) (.bool false) (.int .u64 0) (.slice none 0 0) (w.heap.size + 1 + 1) (by simp)
  have hnx := hx.below hW
  have hny := hy.below hW
  have wsz : w.heap.size + 3 ≤ (((w.alloc (.cells #[.bool true,.int .u64 x,.slice p l c] 28)).alloc (.cells #[.bool false,.int .u64 y,.slice r m d] 28)).alloc (.cells #[.bool false,.int .u64 0,.slice none 0 0] 28)).heap.size := by have := rr.lt; omega
  go_enter Tryz.func20,Tryz.ntmps20
  go_wp2_with fail
  generalize (((w.alloc (.cells #[.bool true,.int .u64 x,.slice p l c] 28)).alloc (.cells #[.bool false,.int .u64 y,.slice r m d] 28)).alloc (.cells #[.bool false,.int .u64 0,.slice none 0 0] 28)) = W at hW ra rb rr hnx hny wsz ⊢
  obtain ⟨q,hq⟩ : ∃ q,w.heap.size = q := ⟨_,rfl⟩
  have hqw : w.heap.size ≤ q + 1 + 1 := by omega
  rw [hq] at ra rb rr wsz ⊢
  have z0 : q < q + 3 := by omega
  have z1 : q + 1 < q + 3 := by omega
  have z2 : q + 1 + 1 < q + 3 := by omega
  have d0 : q ≠ q + 1 + 1 := by omega
  have d1 : q + 1 ≠ q + 1 + 1 := by omega
  have acc := Below.refl (q + 3) W
  refine (mm W hnx hny).mono ?_
  rintro e wa ⟨rfl,hb⟩
  have hnxa := hnx.below hb
  have hnya := hny.below hb
  replace acc := acc.trans (hb.mono wsz)
  have ba : Below wa.heap.size wa (wa.alloc (.cells #[.int .u64 0,.slice none 0 0] 26)) := by go_grown
  have wsa : q + 3 ≤ wa.heap.size := Nat.le_trans wsz acc.size
  replace acc := acc.trans (ba.mono wsa)
  replace hnxa := hnxa.below ba
  replace hnya := hnya.below ba
  have a0 := (ra.below acc z0).cell0
  have a1 := (ra.below acc z0).cell1
  have a2 := (ra.below acc z0).cell2
  have b0 := (rb.below acc z1).cell0
  have b1 := (rb.below acc z1).cell1
  have b2 := (rb.below acc z1).cell2
  have c0 := (rr.below acc z2).cell0
  have c1 := (rr.below acc z2).cell1
  have c2 := (rr.below acc z2).cell2
  have f0 := (rr.below acc z2).free 0
  have f1 := (rr.below acc z2).free 1
  have f2 := (rr.below acc z2).free 2
  go_wp2_with fail
  generalize (wa.alloc (.cells #[.int .u64 0,.slice none 0 0] 26)) = wc at acc hnxa hnya ⊢
  clear a0 a1 a2 b0 b1 b2 c0 c1 c2 f0 f1 f2 ba
  refine (mn wc hnxa hnya).mono ?_
  rintro e wd ⟨v1,rfl,hs1,hb2⟩
  obtain ⟨x1,p1,l1,k1,rfl⟩ := hs1.shape
  have wsc : q + 3 ≤ wc.heap.size := Nat.le_trans wsz acc.size
  replace acc := acc.trans (hb2.mono wsc)
  have hv := Var.new wd wd.heap.size (.int .u64 x1) p1 l1 k1 rfl
  have bd : Below wd.heap.size wd (wd.alloc (.cells #[.int .u64 x1,.slice p1 l1 k1] 26)) := by go_grown
  have wsd : q + 3 ≤ wd.heap.size := Nat.le_trans wsz acc.size
  replace acc := acc.trans (bd.mono wsd)
  replace hs1 := hs1.below bd
  have h0 := hv.c0
  have h1 := hv.c1
  have a0 := (ra.below acc z0).cell0
  have a1 := (ra.below acc z0).cell1
  have a2 := (ra.below acc z0).cell2
  have b0 := (rb.below acc z1).cell0
  have b1 := (rb.below acc z1).cell1
  have b2 := (rb.below acc z1).cell2
  have c0 := (rr.below acc z2).cell0
  have c1 := (rr.below acc z2).cell1
  have c2 := (rr.below acc z2).cell2
  have f0 := (rr.below acc z2).free 0
  have f1 := (rr.below acc z2).free 1
  have f2 := (rr.below acc z2).free 2
  have r2 := rr.below acc z2
  have g3 := r2.set3 (.bool false) (.int .u64 x1) (.slice p1 l1 k1)
  have hbw := hW.trans (acc.mono (by have := hW.size; omega))
  have hB3 := ((hbw.setCell (p := ⟨q + 1 + 1,0,none⟩) hqw (.bool false)).setCell (p := ⟨q + 1 + 1,1,none⟩) hqw (.int .u64 x1)).setCell (p := ⟨q + 1 + 1,2,none⟩) hqw (.slice p1 l1 k1)
  go_wp2_with fail
  exact bodyPost_int Tryz.results20 rfl rfl g3 hR.out.symm (by rw [eN.out]; exact hs1.row3 r2 _ _ _) hB3
theorem add_int (K : Nat) (hK : 1 ≤ K) (hK2 : K ≤ 4294967296) (va vb : Value) (a b : Int) (w : World) (ha : IsInt w va a) (hb : IsInt w vb b) (haK : absI a < pw K) (hbK : absI b < pw K) : Calls Tryz.prog 20 #[va,vb] w (RetInt (a + b) w) := by
  obtain ⟨x,p,l,c,rfl,hx⟩ := ha
  obtain ⟨y,r,m,d,rfl,hy⟩ := hb
  have h1 := absI_nonneg a
  have h2 := absI_nonneg b
  by_cases a0 : a < 0 <;> by_cases b0 : b < 0
  · have ea : absI a = -a := by unfold absI; rw [if_pos a0]
    have eb : absI b = -b := by unfold absI; rw [if_pos b0]
    rw [decide_eq_true a0,decide_eq_true b0]
    exact add_same_true K hK2 x p l c y r m d _ _ (a + b) w hx hy haK hbK (Lib.hid (decide_eq_true (by omega))) (Lib.hid (by rw [ea,eb]; unfold absI; rw [if_pos (by omega)]; omega))
  · have ea : absI a = -a := by unfold absI; rw [if_pos a0]
    have eb : absI b = b := by unfold absI; rw [if_neg b0]
    rw [decide_eq_true a0,decide_eq_false b0]
    by_cases hle : absI b ≤ absI a
    · exact add_more_true K hK hK2 x p l c y r m d _ _ (a + b) w hx hy haK hle (Lib.hid (by rw [ea,eb,if_pos rfl]; omega))
    · exact add_less_true K hK hK2 x p l c y r m d _ _ (a + b) w hx hy hbK (by omega) (Lib.hid (decide_eq_false (by omega))) (Lib.hid (by rw [ea,eb]; unfold absI; rw [if_neg (by omega)]; omega))
  · have ea : absI a = a := by unfold absI; rw [if_neg a0]
    have eb : absI b = -b := by unfold absI; rw [if_pos b0]
    rw [decide_eq_false a0,decide_eq_true b0]
    by_cases hle : absI b ≤ absI a
    · exact add_more_false K hK hK2 x p l c y r m d _ _ (a + b) w hx hy haK hle (Lib.hid (by rw [ea,eb,if_neg (by decide)]; omega))
    · exact add_less_false K hK hK2 x p l c y r m d _ _ (a + b) w hx hy hbK (by omega) (Lib.hid (decide_eq_true (by omega))) (Lib.hid (by rw [ea,eb]; unfold absI; rw [if_pos (by omega)]; omega))
  · have ea : absI a = a := by unfold absI; rw [if_neg a0]
    have eb : absI b = b := by unfold absI; rw [if_neg b0]
    rw [decide_eq_false a0,decide_eq_false b0]
    exact add_same_false K hK2 x p l c y r m d _ _ (a + b) w hx hy haK hbK (Lib.hid (decide_eq_false (by omega))) (Lib.hid (by rw [ea,eb]; unfold absI; rw [if_neg (by omega)]))
end Go.Proofs.YtgccgacpifebbaaGreatDoor
namespace Go.Proofs.YtgccgacpifebbaaGreatDoor
open Go.RowKit
set_option linter.unusedVariables false
theorem absI_neg (z : Int) : absI (-z) = absI z := by
  unfold absI
  split <;> split <;> omega
theorem IsInt.drew {w : World} {v : Value} {z : Int} (h : IsInt w v z) : IsInt w.drew v z := h
theorem IsInt.shaped {w : World} {v : Value} {z : Int} (h : IsInt w v z) : ∃ x p l c,v = .agg #[.bool (decide (z < 0)),.int .u64 x,.slice p l c] ∧ True := by
  obtain ⟨x,p,l,c,hv,_⟩ := h
  exact ⟨x,p,l,c,hv,trivial⟩
set_option maxRecDepth 100000 in
set_option maxHeartbeats 4000000 in
theorem sub_int (K : Nat) (hK : 1 ≤ K) (hK2 : K ≤ 4294967296) (va vb : Value) (a b : Int) (w : World) (ha : IsInt w va a) (hb : IsInt w vb b) (haK : absI a < pw K) (hbK : absI b < pw K) : Calls Tryz.prog 37 #[va,vb] w (RetInt (a - b) w) := by
  have hia := ha
  have hib := hb
  obtain ⟨x,p,l,c,rfl,hx⟩ := ha
  obtain ⟨y,r,m,d,rfl,hy⟩ := hb
  rw [← absI_neg b] at hbK
  have nn := fun v W (g : IsInt W v b) => neg_int v b W g
  have ad := fun v1 v2 W (g1 : IsInt W v1 a) (g2 : IsInt W v2 (-b)) => add_int K hK hK2 v1 v2 a (-b) W g1 g2 haK hbK
  rw [show a + -b = a - b by omega] at ad
  generalize a - b = R at ad ⊢
  have nn2 : ∀ v W,IsInt W v b → Calls Tryz.prog 36 #[v] W (RetInt (-b) W) := nn
  clear nn hbK
  generalize -b = N at nn2 ad
  generalize decide (a < 0) = A at hia ⊢
  generalize decide (b < 0) = B at hib ⊢
  have hW : Below w.heap.size w (((w.alloc (.cells #[.bool A,.int .u64 x,.slice p l c] 28)).alloc (.cells #[.bool B,.int .u64 y,.slice r m d] 28)).alloc (.cells #[.bool false,.int .u64 0,.slice none 0 0] 28)) := by go_grown
  have ra := ((Row3.new w (.bool A) (.int .u64 x) (.slice p l c) w.heap.size rfl).alloc (.cells #[.bool B,.int .u64 y,.slice r m d] 28)).alloc (.cells #[.bool false,.int .u64 0,.slice none 0 0] 28)
  have rb := (Row3.new (w.alloc (.cells #[.bool A,.int .u64 x,.slice p l c] 28)) (.bool B) (.int .u64 y) (.slice r m d) (w.heap.size + 1) (by simp)).alloc (.cells #[.bool false,.int .u64 0,.slice none 0 0] 28)
  have rr := Row3.new ((w.alloc (.cells #[.bool A,.int .u64 x,.slice p l c] 28)).alloc (.cells #[.bool B,.int .u64 y,.slice r m d] 28)) (.bool false) (.int .u64 0) (.slice none 0 0) (w.heap.size + 1 + 1) (by simp)
  have hnx := hx.below hW
  have hny := hy.below hW
  have wsz : w.heap.size + 3 ≤ (((w.alloc (.cells #[.bool A,.int .u64 x,.slice p l c] 28)).alloc (.cells #[.bool B,.int .u64 y,.slice r m d] 28)).alloc (.cells #[.bool false,.int .u64 0,.slice none 0 0] 28)).heap.size := by have := rr.lt; omega
  go_enter Tryz.func37,Tryz.ntmps37
  go_wp2_with fail
  have hiA := hia.below hW
  have hiB := hib.below hW
  generalize (((w.alloc (.cells #[.bool A,.int .u64 x,.slice p l c] 28)).alloc (.cells #[.bool B,.int .u64 y,.slice r m d] 28)).alloc (.cells #[.bool false,.int .u64 0,.slice none 0 0] 28)) = W at hiA hiB hW ra rb rr hnx hny wsz ⊢
  obtain ⟨q,hq⟩ : ∃ q,w.heap.size = q := ⟨_,rfl⟩
  have hqw : w.heap.size ≤ q + 1 + 1 := by omega
  rw [hq] at ra rb rr wsz ⊢
  have z0 : q < q + 3 := by omega
  have z1 : q + 1 < q + 3 := by omega
  have z2 : q + 1 + 1 < q + 3 := by omega
  have d0 : q ≠ q + 1 + 1 := by omega
  have d1 : q + 1 ≠ q + 1 + 1 := by omega
  have acc := Below.refl (q + 3) W
  have hiAd := hiA.drew
  have hiBd := hiB.drew
  have a0 := (ra.below acc z0).cell0
  have a1 := (ra.below acc z0).cell1
  have a2 := (ra.below acc z0).cell2
  have b0 := (rb.below acc z1).cell0
  have b1 := (rb.below acc z1).cell1
  have b2 := (rb.below acc z1).cell2
  have c0 := (rr.below acc z2).cell0
  have c1 := (rr.below acc z2).cell1
  have c2 := (rr.below acc z2).cell2
  have f0 := (rr.below acc z2).free 0
  have f1 := (rr.below acc z2).free 1
  have f2 := (rr.below acc z2).free 2
  go_region_held3 (fun w' => w'.cell? ⟨q,0,none⟩ = some (.bool A) ∧ w'.cell? ⟨q,1,none⟩ = some (.int .u64 x) ∧ w'.cell? ⟨q,2,none⟩ = some (.slice p l c) ∧ w'.cell? ⟨q + 1,0,none⟩ = some (.bool B) ∧ w'.cell? ⟨q + 1,1,none⟩ = some (.int .u64 y) ∧ w'.cell? ⟨q + 1,2,none⟩ = some (.slice r m d))
    (first | with_reducible exact ⟨(ra.below acc z0).cell0,(ra.below acc z0).cell1,(ra.below acc z0).cell2,(rb.below acc z1).cell0,(rb.below acc z1).cell1,(rb.below acc z1).cell2⟩ | with_reducible exact ⟨(ra.below acc z0).drew.cell0,(ra.below acc z0).drew.cell1,(ra.below acc z0).drew.cell2,(rb.below acc z1).drew.cell0,(rb.below acc z1).drew.cell1,(rb.below acc z1).drew.cell2⟩ | with_reducible exact ⟨((((ra.below acc z0).other (a := ⟨q + 1 + 1,0,none⟩) d0 _).other (a := ⟨q + 1 + 1,1,none⟩) d0 _).other (a := ⟨q + 1 + 1,2,none⟩) d0 _).cell0,((((ra.below acc z0).other (a := ⟨q + 1 + 1,0,none⟩) d0 _).other (a := ⟨q + 1 + 1,1,none⟩) d0 _).other (a := ⟨q + 1 + 1,2,none⟩) d0 _).cell1,((((ra.below acc z0).other (a := ⟨q + 1 + 1,0,none⟩) d0 _).other (a := ⟨q + 1 + 1,1,none⟩) d0 _).other (a := ⟨q + 1 + 1,2,none⟩) d0 _).cell2,((((rb.below acc z1).other (a := ⟨q + 1 + 1,0,none⟩) d1 _).other (a := ⟨q + 1 + 1,1,none⟩) d1 _).other (a := ⟨q + 1 + 1,2,none⟩) d1 _).cell0,((((rb.below acc z1).other (a := ⟨q + 1 + 1,0,none⟩) d1 _).other (a := ⟨q + 1 + 1,1,none⟩) d1 _).other (a := ⟨q + 1 + 1,2,none⟩) d1 _).cell1,((((rb.below acc z1).other (a := ⟨q + 1 + 1,0,none⟩) d1 _).other (a := ⟨q + 1 + 1,1,none⟩) d1 _).other (a := ⟨q + 1 + 1,2,none⟩) d1 _).cell2⟩)
    (first
      | (go_at_call 36; (first | (have q1 := nn2 _ W hiB; (with_reducible refine q1.mono ?_); clear q1) | (have q1 := nn2 _ W.drew hiBd; (with_reducible refine q1.mono ?_); clear q1)); rintro e wa ⟨v1,rfl,hs1,hb⟩; (first | replace hb : Below W.heap.size W wa := hb | replace hb := below_undrew (w := W) hb); replace acc := acc.trans (hb.mono (Nat.le_trans wsz acc.size)); have hi2 := hiA.below hb; obtain ⟨x1,p1,l1,k1,rfl,_⟩ := hs1.shaped; have a0 := (ra.below acc z0).cell0; have a1 := (ra.below acc z0).cell1; have a2 := (ra.below acc z0).cell2; have b0 := (rb.below acc z1).cell0; have b1 := (rb.below acc z1).cell1; have b2 := (rb.below acc z1).cell2; have c0 := (rr.below acc z2).cell0; have c1 := (rr.below acc z2).cell1; have c2 := (rr.below acc z2).cell2; have f0 := (rr.below acc z2).free 0; have f1 := (rr.below acc z2).free 1; have f2 := (rr.below acc z2).free 2; clear hb)
      | (go_at_call 20; (first | (have q1 := ad _ _ wa hi2 hs1; (with_reducible refine q1.mono ?_); clear q1) | (have q1 := ad _ _ wa.drew hi2.drew hs1.drew; (with_reducible refine q1.mono ?_); clear q1)); rintro e wb ⟨v2,rfl,⟨x2,p2,l2,k2,rfl,hn2⟩,hb⟩; (first | replace hb : Below wa.heap.size wa wb := hb | replace hb := below_undrew (w := wa) hb); replace acc := acc.trans (hb.mono (Nat.le_trans wsz acc.size)); have a0 := (ra.below acc z0).cell0; have a1 := (ra.below acc z0).cell1; have a2 := (ra.below acc z0).cell2; have b0 := (rb.below acc z1).cell0; have b1 := (rb.below acc z1).cell1; have b2 := (rb.below acc z1).cell2; have c0 := (rr.below acc z2).cell0; have c1 := (rr.below acc z2).cell1; have c2 := (rr.below acc z2).cell2; have f0 := (rr.below acc z2).free 0; have f1 := (rr.below acc z2).free 1; have f2 := (rr.below acc z2).free 2; clear hb))
  all_goals
    have hbw := hW.trans (acc.mono (by have := hW.size; omega))
    have r2 := rr.below acc z2
    have g3 := r2.set3 (.bool (decide (R < 0))) (.int .u64 x2) (.slice p2 l2 k2)
    have hB3 := ((hbw.setCell (p := ⟨q + 1 + 1,0,none⟩) hqw (.bool (decide (R < 0)))).setCell (p := ⟨q + 1 + 1,1,none⟩) hqw (.int .u64 x2)).setCell (p := ⟨q + 1 + 1,2,none⟩) hqw (.slice p2 l2 k2)
    go_wp2_with fail
    exact bodyPost_int Tryz.results37 rfl rfl g3 rfl (hn2.row3 r2 _ _ _) hB3
end Go.Proofs.YtgccgacpifebbaaGreatDoor
namespace Go.Proofs.YtgccgacpifebbaaGreatDoor
open Go.RowKit
set_option linter.unusedVariables false
set_option maxRecDepth 100000 in
set_option maxHeartbeats 1000000 in
theorem wcmp_int (va vb : Value) (a b : Int) (w : World) (ha : IsInt w va a) (hb : IsInt w vb b) : Calls Tryz.prog 21 #[va,vb] w fun e w' => e = .returned (.int .i64 (cmpI a b)) ∧ Below w.heap.size w w' := by
  obtain ⟨x,p,l,c,rfl,hx⟩ := ha
  obtain ⟨y,r,m,d,rfl,hy⟩ := hb
  have hW : ∀ A B : Bool,Below w.heap.size w ((w.alloc (.cells #[.bool A,.int .u64 x,.slice p l c] 28)).alloc (.cells #[.bool B,.int .u64 y,.slice r m d] 28)) := fun A B => by go_grown
  by_cases a0 : a < 0 <;> by_cases b0 : b < 0
  · have e1 : cmpI (absI b) (absI a) = cmpI a b := by unfold absI cmpI; rw [if_pos a0,if_pos b0]; split <;> split <;> (try split) <;> omega
    rw [decide_eq_true a0,decide_eq_true b0]
    have h := hW true true
    have hy' := hy.below h
    have hx' := hx.below h
    clear hx hy hW a0 b0
    go_enter Tryz.func21,Tryz.ntmps21
    go_wp2_with fail
    refine (cmp_any _ _ _ _ _ hy' hx').mono ?_
    rintro e w1 ⟨rfl,hb⟩
    rw [e1]
    go_wp2_with fail
    go_ret
    exact ⟨rfl,h.trans (hb.mono h.size)⟩
  · have e1 : cmpI a b = -1 := by unfold cmpI; rw [if_pos (by omega)]
    rw [decide_eq_true a0,decide_eq_false b0]
    have h := hW true false
    have hy' := hy.below h
    have hx' := hx.below h
    clear hx hy hW a0 b0
    go_enter Tryz.func21,Tryz.ntmps21
    go_wp2_with fail
    go_ret
    exact ⟨by rw [e1]; rfl,h⟩
  · have e1 : cmpI a b = 1 := by unfold cmpI; rw [if_neg (by omega),if_pos (by omega)]
    rw [decide_eq_false a0,decide_eq_true b0]
    have h := hW false true
    have hy' := hy.below h
    have hx' := hx.below h
    clear hx hy hW a0 b0
    go_enter Tryz.func21,Tryz.ntmps21
    go_wp2_with fail
    go_ret
    exact ⟨by rw [e1]; rfl,h⟩
  · have e1 : cmpI (absI a) (absI b) = cmpI a b := by unfold absI; rw [if_neg a0,if_neg b0]
    rw [decide_eq_false a0,decide_eq_false b0]
    have h := hW false false
    have hy' := hy.below h
    have hx' := hx.below h
    clear hx hy hW a0 b0
    go_enter Tryz.func21,Tryz.ntmps21
    go_wp2_with fail
    refine (cmp_any _ _ _ _ _ hx' hy').mono ?_
    rintro e w1 ⟨rfl,hb⟩
    rw [e1]
    go_wp2_with fail
    go_ret
    exact ⟨rfl,h.trans (hb.mono h.size)⟩
end Go.Proofs.YtgccgacpifebbaaGreatDoor
