/- MulAny RingKit -/
import Derived.Test.YtgccgacpifebbaaGreatDoorZb12
import Derived.Test.YtgccgacpifebbaaGreatDoorZb11
namespace Go.Proofs.YtgccgacpifebbaaGreatDoor
open Go.RowKit
set_option linter.unusedVariables false
theorem arr_grownD {w wx w' : World} {b q : Nat} {t : TypeId} {k : IntKind} {l : List Int} (h : Arr w b t k l) (hg : wx.heap = w.heap ∧ wx.grownBy w' (some q)) (hq : b ≠ q) : Arr w' b t k l := by
  refine (hg.2.block b (by rw [hg.1]; exact h.lt) (fun e => hq (Option.some.inj e))).trans ?_
  rw [hg.1]; exact h
theorem rooms (w : World) (x y z : Obj) (s t : TypeId) (p q : Int) : Arr ((((((w.alloc x).alloc y).alloc z).alloc (.cells #[.int .u64 p] s)).alloc (.cells #[.int .u64 q] t))) (w.heap.size + 1 + 1 + 1) s .u64 [p] ∧ Arr ((((((w.alloc x).alloc y).alloc z).alloc (.cells #[.int .u64 p] s)).alloc (.cells #[.int .u64 q] t))) (w.heap.size + 1 + 1 + 1 + 1) t .u64 [q] :=
  ⟨Arr.alloc (Arr.new _ _ _ [p] _ (by simp)) _,Arr.new _ _ _ [q] _ (by simp)⟩
set_option maxRecDepth 100000 in
set_option maxHeartbeats 1000000 in
theorem mul_some (K : Nat) (hK : 1 ≤ K) (hK2 : K < 40) (x1 : Int) (a1 : Addr) (p2 : Option Addr) (m1 k1 : Nat) (x2 : Int) (m2 k2 : Nat) (n m : Int) (w : World)
    (h1 : IsNat w (.agg #[.int .u64 x1,.slice (some a1) m1 k1]) n) (h2 : IsNat w (.agg #[.int .u64 x2,.slice p2 m2 k2]) m) (hn : n < pw K) (hm : m < pw K) :
    Calls Tryz.prog 52 #[.agg #[.int .u64 x1,.slice (some a1) m1 k1],.agg #[.int .u64 x2,.slice p2 m2 k2]] w (RetNat (n * m) w) := by
  have e1 := eqnil
  have e2 := neqnil
  have hW : Below w.heap.size w ((((((w.alloc (.cells #[.int .u64 x1,.slice (some a1) m1 k1] 26)).alloc (.cells #[.int .u64 x2,.slice p2 m2 k2] 26)).alloc (.cells #[.int .u64 0,.slice none 0 0] 26)).alloc (.cells #[.int .u64 0] 121)).alloc (.cells #[.int .u64 0] 121))) := by go_grown
  have v0 : Var ((((((w.alloc (.cells #[.int .u64 x1,.slice (some a1) m1 k1] 26)).alloc (.cells #[.int .u64 x2,.slice p2 m2 k2] 26)).alloc (.cells #[.int .u64 0,.slice none 0 0] 26)).alloc (.cells #[.int .u64 0] 121)).alloc (.cells #[.int .u64 0] 121))) w.heap.size (.int .u64 x1) (.slice (some a1) m1 k1) := ((((Var.new w w.heap.size _ _ _ _ rfl).alloc _).alloc _).alloc _).alloc _
  have v1 : Var ((((((w.alloc (.cells #[.int .u64 x1,.slice (some a1) m1 k1] 26)).alloc (.cells #[.int .u64 x2,.slice p2 m2 k2] 26)).alloc (.cells #[.int .u64 0,.slice none 0 0] 26)).alloc (.cells #[.int .u64 0] 121)).alloc (.cells #[.int .u64 0] 121))) (w.heap.size + 1) (.int .u64 x2) (.slice p2 m2 k2) := (((Var.new (w.alloc _) _ _ _ _ _ (by simp)).alloc _).alloc _).alloc _
  have v2 : Var ((((((w.alloc (.cells #[.int .u64 x1,.slice (some a1) m1 k1] 26)).alloc (.cells #[.int .u64 x2,.slice p2 m2 k2] 26)).alloc (.cells #[.int .u64 0,.slice none 0 0] 26)).alloc (.cells #[.int .u64 0] 121)).alloc (.cells #[.int .u64 0] 121))) (w.heap.size + 1 + 1) (.int .u64 0) (.slice none 0 0) := ((Var.new ((w.alloc _).alloc _) _ _ _ _ _ (by simp)).alloc _).alloc _
  obtain ⟨r3,r4⟩ := rooms w (.cells #[.int .u64 x1,.slice (some a1) m1 k1] 26) (.cells #[.int .u64 x2,.slice p2 m2 k2] 26) (.cells #[.int .u64 0,.slice none 0 0] 26) 121 121 0 0
  have g1 := h1.below hW
  have g2 := h2.below hW
  have hsz : w.heap.size + 1 + 1 + 1 + 1 + 1 = ((((((w.alloc (.cells #[.int .u64 x1,.slice (some a1) m1 k1] 26)).alloc (.cells #[.int .u64 x2,.slice p2 m2 k2] 26)).alloc (.cells #[.int .u64 0,.slice none 0 0] 26)).alloc (.cells #[.int .u64 0] 121)).alloc (.cells #[.int .u64 0] 121))).heap.size := by simp
  go_enter Tryz.func52,Tryz.ntmps52
  go_wp2_with fail
  generalize ((((((w.alloc (.cells #[.int .u64 x1,.slice (some a1) m1 k1] 26)).alloc (.cells #[.int .u64 x2,.slice p2 m2 k2] 26)).alloc (.cells #[.int .u64 0,.slice none 0 0] 26)).alloc (.cells #[.int .u64 0] 121)).alloc (.cells #[.int .u64 0] 121))) = W at hW v0 v1 v2 r3 r4 g1 g2 hsz ⊢
  have H1 : ∀ W',Below W.heap.size W W' → Calls Tryz.prog 72 #[.agg #[.int .u64 x1,.slice (some a1) m1 k1],.pointer (some ⟨w.heap.size + 1 + 1 + 1,0,none⟩)] W' fun e wa => (∃ x,e = .returned x ∧ WordsOf wa (w.heap.size + 1 + 1 + 1 + 1) n K x) ∧ (∃ r,Arr wa (w.heap.size + 1 + 1 + 1) 121 .u64 [r]) ∧ IsNat wa (.agg #[.int .u64 x2,.slice p2 m2 k2]) m ∧ Arr wa (w.heap.size + 1 + 1 + 1 + 1) 121 .u64 [0] ∧ Below (w.heap.size + 1 + 1 + 1) W wa := by
    intro W' hb
    have q3 := r3.below hb r3.lt
    have q4 := r4.below hb r4.lt
    refine (words_any K hK _ n (w.heap.size + 1 + 1 + 1) 121 0 (w.heap.size + 1 + 1 + 1 + 1) 121 0 W' (g1.below hb) hn q3 q4 (by omega)).mono ?_
    rintro e wa ⟨hx,hr,hg⟩
    exact ⟨hx,hr,(g2.below hb).room q3 hg,q4.grown hg (by simp),Below.ofGrown (hb.mono (by omega)) hg (by have := q3.lt; omega) (Nat.le_refl _)⟩
  have H2 : ∀ W' r,Arr W' (w.heap.size + 1 + 1 + 1) 121 .u64 [r] → IsNat W' (.agg #[.int .u64 x2,.slice p2 m2 k2]) m → Arr W' (w.heap.size + 1 + 1 + 1 + 1) 121 .u64 [0] → Below (w.heap.size + 1 + 1 + 1) W W' → Calls Tryz.prog 72 #[.agg #[.int .u64 x2,.slice p2 m2 k2],.pointer (some ⟨w.heap.size + 1 + 1 + 1 + 1,0,none⟩)] W' fun e wb => (∃ y,e = .returned y ∧ WordsOf wb (w.heap.size + 1 + 1 + 1) m K y) ∧ W'.grownBy wb (some (w.heap.size + 1 + 1 + 1 + 1)) ∧ Below (w.heap.size + 1 + 1 + 1) W wb := by
    intro W' r q3 hv q4 hb
    refine (words_any K hK _ m (w.heap.size + 1 + 1 + 1 + 1) 121 0 (w.heap.size + 1 + 1 + 1) 121 r W' hv hm q4 q3 (by omega)).mono ?_
    rintro e wb ⟨hx,_,hg⟩
    exact ⟨hx,hg,Below.ofGrown hb hg (by have := q3.lt; omega) (by omega)⟩
  have z0 : w.heap.size < w.heap.size + 1 + 1 + 1 := by omega
  have z1 : w.heap.size + 1 < w.heap.size + 1 + 1 + 1 := by omega
  have z2 : w.heap.size + 1 + 1 < w.heap.size + 1 + 1 + 1 := by omega
  have d02 : w.heap.size ≠ w.heap.size + 1 + 1 := by omega
  have d12 : w.heap.size + 1 ≠ w.heap.size + 1 + 1 := by omega
  have c00 := v0.c0
  have c01 := v0.c1
  have c10 := v1.c0
  have c11 := v1.c1
  have bel := Below.refl W.heap.size W
  have acc := Below.refl (w.heap.size + 1 + 1 + 1) W
  have hsz3 : w.heap.size + 1 + 1 + 1 ≤ W.heap.size := by omega
  clear r3 r4 g1 g2 h1 h2 hsz e1 e2
  go_region_held3 (fun w' => w'.cell? ⟨w.heap.size,0,none⟩ = some (.int .u64 x1) ∧ w'.cell? ⟨w.heap.size,1,none⟩ = some (.slice (some a1) m1 k1) ∧ w'.cell? ⟨w.heap.size + 1,0,none⟩ = some (.int .u64 x2) ∧ w'.cell? ⟨w.heap.size + 1,1,none⟩ = some (.slice p2 m2 k2))
    (first | with_reducible exact ⟨(v0.below acc z0).c0,(v0.below acc z0).c1,(v1.below acc z1).c0,(v1.below acc z1).c1⟩ | with_reducible exact ⟨(v0.below acc z0).drew.c0,(v0.below acc z0).drew.c1,(v1.below acc z1).drew.c0,(v1.below acc z1).drew.c1⟩ | with_reducible exact ⟨(((v0.below acc z0).other d02 _).other d02 _).c0,(((v0.below acc z0).other d02 _).other d02 _).c1,(((v1.below acc z1).other d12 _).other d12 _).c0,(((v1.below acc z1).other d12 _).other d12 _).c1⟩)
    (first
      | (go_at_call 72; (first | with_reducible refine (H1 W bel).mono ?_ | with_reducible refine (H1 W.drew bel.drew).mono ?_); rintro e wa ⟨⟨_,rfl,b1,t1,len1,cap1,l1,rfl,ha1,hl1,hk1,hw1,hv1,hq1⟩,⟨r,hr3⟩,hg2,hr4,hacc⟩; replace acc := hacc; have c00 := (v0.below acc z0).c0; have c01 := (v0.below acc z0).c1; have c10 := (v1.below acc z1).c0; have c11 := (v1.below acc z1).c1)
      | (go_at_call 72; have q1 := H2 wa r hr3 hg2 hr4 acc; have q2 := H2 wa.drew r hr3 hg2 hr4 acc.drew; (first | with_reducible refine q1.mono ?_ | with_reducible refine q2.mono ?_); clear q1 q2; rintro e wb ⟨⟨_,rfl,b2,t2,len2,cap2,l2,rfl,ha2,hl2,hk2,hw2,hv2,hq2⟩,hgb,hacc⟩; replace acc := hacc; replace ha1 := arr_grownD ha1 ⟨rfl,hgb⟩ hq1; clear hgb)
      | (go_at_call 80; have q1 := product_any b1 t1 len1 cap1 l1 b2 t2 len2 cap2 l2 wb ha1 ha2 hl1 hl2 (Nat.lt_of_le_of_lt hk1 hK2) (Nat.lt_of_le_of_lt hk2 hK2) hw1 hw2; (with_reducible refine q1.mono ?_); clear q1; rintro e wc ⟨rfl,⟨lz,hz,hzl,hzw,hzv⟩,hB⟩; replace acc := acc.trans (hB.mono (Nat.le_trans hsz3 acc.size)))
      | (go_at_call 79; have q1 := made_any wb.heap.size 23 (len1 + len2) (len1 + len2) lz wc hz (Nat.le_refl _) (Nat.le_of_eq hzl.symm) (by omega) hzw; (with_reducible refine q1.mono ?_); clear q1; rintro e wd ⟨v,rfl,hv,hb4⟩; obtain ⟨xa,xp,xl,xc,rfl⟩ := hv.shape; replace acc := acc.trans (hb4.mono (Nat.le_trans hsz3 acc.size)); have c20 := (v2.below acc z2).c0; have c21 := (v2.below acc z2).c1; have f20 := (v2.below acc z2).free 0; have f21 := (v2.below acc z2).free 1))
  all_goals
    rw [List.take_of_length_le (Nat.le_of_eq hzl),hzv,hv1,hv2] at hv
    go_wp2
    exact bodyPost_var Tryz.results52 rfl rfl ((v2.below acc z2).set _ _ _ _) (hv.two (v2.below acc z2) _ _) (below_two (hW.trans (acc.mono (by omega))) (by omega) _ _)
set_option maxRecDepth 100000 in
set_option maxHeartbeats 1000000 in
theorem mul_none (K : Nat) (hK : 1 ≤ K) (hK2 : K < 40) (x1 : Int) (a2 : Addr) (m1 k1 : Nat) (x2 : Int) (m2 k2 : Nat) (n m : Int) (w : World)
    (h1 : IsNat w (.agg #[.int .u64 x1,.slice none m1 k1]) n) (h2 : IsNat w (.agg #[.int .u64 x2,.slice (some a2) m2 k2]) m) (hn : n < pw K) (hm : m < pw K) :
    Calls Tryz.prog 52 #[.agg #[.int .u64 x1,.slice none m1 k1],.agg #[.int .u64 x2,.slice (some a2) m2 k2]] w (RetNat (n * m) w) := by
  have e1 := eqnil
  have e2 := neqnil
  have hW : Below w.heap.size w ((((((w.alloc (.cells #[.int .u64 x1,.slice none m1 k1] 26)).alloc (.cells #[.int .u64 x2,.slice (some a2) m2 k2] 26)).alloc (.cells #[.int .u64 0,.slice none 0 0] 26)).alloc (.cells #[.int .u64 0] 121)).alloc (.cells #[.int .u64 0] 121))) := by go_grown
  have v0 : Var ((((((w.alloc (.cells #[.int .u64 x1,.slice none m1 k1] 26)).alloc (.cells #[.int .u64 x2,.slice (some a2) m2 k2] 26)).alloc (.cells #[.int .u64 0,.slice none 0 0] 26)).alloc (.cells #[.int .u64 0] 121)).alloc (.cells #[.int .u64 0] 121))) w.heap.size (.int .u64 x1) (.slice none m1 k1) := ((((Var.new w w.heap.size _ _ _ _ rfl).alloc _).alloc _).alloc _).alloc _
  have v1 : Var ((((((w.alloc (.cells #[.int .u64 x1,.slice none m1 k1] 26)).alloc (.cells #[.int .u64 x2,.slice (some a2) m2 k2] 26)).alloc (.cells #[.int .u64 0,.slice none 0 0] 26)).alloc (.cells #[.int .u64 0] 121)).alloc (.cells #[.int .u64 0] 121))) (w.heap.size + 1) (.int .u64 x2) (.slice (some a2) m2 k2) := (((Var.new (w.alloc _) _ _ _ _ _ (by simp)).alloc _).alloc _).alloc _
  have v2 : Var ((((((w.alloc (.cells #[.int .u64 x1,.slice none m1 k1] 26)).alloc (.cells #[.int .u64 x2,.slice (some a2) m2 k2] 26)).alloc (.cells #[.int .u64 0,.slice none 0 0] 26)).alloc (.cells #[.int .u64 0] 121)).alloc (.cells #[.int .u64 0] 121))) (w.heap.size + 1 + 1) (.int .u64 0) (.slice none 0 0) := ((Var.new ((w.alloc _).alloc _) _ _ _ _ _ (by simp)).alloc _).alloc _
  obtain ⟨r3,r4⟩ := rooms w (.cells #[.int .u64 x1,.slice none m1 k1] 26) (.cells #[.int .u64 x2,.slice (some a2) m2 k2] 26) (.cells #[.int .u64 0,.slice none 0 0] 26) 121 121 0 0
  have g1 := h1.below hW
  have g2 := h2.below hW
  have hsz : w.heap.size + 1 + 1 + 1 + 1 + 1 = ((((((w.alloc (.cells #[.int .u64 x1,.slice none m1 k1] 26)).alloc (.cells #[.int .u64 x2,.slice (some a2) m2 k2] 26)).alloc (.cells #[.int .u64 0,.slice none 0 0] 26)).alloc (.cells #[.int .u64 0] 121)).alloc (.cells #[.int .u64 0] 121))).heap.size := by simp
  go_enter Tryz.func52,Tryz.ntmps52
  go_wp2_with fail
  generalize ((((((w.alloc (.cells #[.int .u64 x1,.slice none m1 k1] 26)).alloc (.cells #[.int .u64 x2,.slice (some a2) m2 k2] 26)).alloc (.cells #[.int .u64 0,.slice none 0 0] 26)).alloc (.cells #[.int .u64 0] 121)).alloc (.cells #[.int .u64 0] 121))) = W at hW v0 v1 v2 r3 r4 g1 g2 hsz ⊢
  have H1 : ∀ W',Below W.heap.size W W' → Calls Tryz.prog 72 #[.agg #[.int .u64 x1,.slice none m1 k1],.pointer (some ⟨w.heap.size + 1 + 1 + 1,0,none⟩)] W' fun e wa => (∃ x,e = .returned x ∧ WordsOf wa (w.heap.size + 1 + 1 + 1 + 1) n K x) ∧ (∃ r,Arr wa (w.heap.size + 1 + 1 + 1) 121 .u64 [r]) ∧ IsNat wa (.agg #[.int .u64 x2,.slice (some a2) m2 k2]) m ∧ Arr wa (w.heap.size + 1 + 1 + 1 + 1) 121 .u64 [0] ∧ Below (w.heap.size + 1 + 1 + 1) W wa := by
    intro W' hb
    have q3 := r3.below hb r3.lt
    have q4 := r4.below hb r4.lt
    refine (words_any K hK _ n (w.heap.size + 1 + 1 + 1) 121 0 (w.heap.size + 1 + 1 + 1 + 1) 121 0 W' (g1.below hb) hn q3 q4 (by omega)).mono ?_
    rintro e wa ⟨hx,hr,hg⟩
    exact ⟨hx,hr,(g2.below hb).room q3 hg,q4.grown hg (by simp),Below.ofGrown (hb.mono (by omega)) hg (by have := q3.lt; omega) (Nat.le_refl _)⟩
  have H2 : ∀ W' r,Arr W' (w.heap.size + 1 + 1 + 1) 121 .u64 [r] → IsNat W' (.agg #[.int .u64 x2,.slice (some a2) m2 k2]) m → Arr W' (w.heap.size + 1 + 1 + 1 + 1) 121 .u64 [0] → Below (w.heap.size + 1 + 1 + 1) W W' → Calls Tryz.prog 72 #[.agg #[.int .u64 x2,.slice (some a2) m2 k2],.pointer (some ⟨w.heap.size + 1 + 1 + 1 + 1,0,none⟩)] W' fun e wb => (∃ y,e = .returned y ∧ WordsOf wb (w.heap.size + 1 + 1 + 1) m K y) ∧ W'.grownBy wb (some (w.heap.size + 1 + 1 + 1 + 1)) ∧ Below (w.heap.size + 1 + 1 + 1) W wb := by
    intro W' r q3 hv q4 hb
    refine (words_any K hK _ m (w.heap.size + 1 + 1 + 1 + 1) 121 0 (w.heap.size + 1 + 1 + 1) 121 r W' hv hm q4 q3 (by omega)).mono ?_
    rintro e wb ⟨hx,_,hg⟩
    exact ⟨hx,hg,Below.ofGrown hb hg (by have := q3.lt; omega) (by omega)⟩
  have z0 : w.heap.size < w.heap.size + 1 + 1 + 1 := by omega
  have z1 : w.heap.size + 1 < w.heap.size + 1 + 1 + 1 := by omega
  have z2 : w.heap.size + 1 + 1 < w.heap.size + 1 + 1 + 1 := by omega
  have d02 : w.heap.size ≠ w.heap.size + 1 + 1 := by omega
  have d12 : w.heap.size + 1 ≠ w.heap.size + 1 + 1 := by omega
  have c00 := v0.c0
  have c01 := v0.c1
  have c10 := v1.c0
  have c11 := v1.c1
  have bel := Below.refl W.heap.size W
  have acc := Below.refl (w.heap.size + 1 + 1 + 1) W
  have hsz3 : w.heap.size + 1 + 1 + 1 ≤ W.heap.size := by omega
  clear r3 r4 g1 g2 h1 h2 hsz e1 e2
  go_region_held3 (fun w' => w'.cell? ⟨w.heap.size,0,none⟩ = some (.int .u64 x1) ∧ w'.cell? ⟨w.heap.size,1,none⟩ = some (.slice none m1 k1) ∧ w'.cell? ⟨w.heap.size + 1,0,none⟩ = some (.int .u64 x2) ∧ w'.cell? ⟨w.heap.size + 1,1,none⟩ = some (.slice (some a2) m2 k2))
    (first | with_reducible exact ⟨(v0.below acc z0).c0,(v0.below acc z0).c1,(v1.below acc z1).c0,(v1.below acc z1).c1⟩ | with_reducible exact ⟨(v0.below acc z0).drew.c0,(v0.below acc z0).drew.c1,(v1.below acc z1).drew.c0,(v1.below acc z1).drew.c1⟩ | with_reducible exact ⟨(((v0.below acc z0).other d02 _).other d02 _).c0,(((v0.below acc z0).other d02 _).other d02 _).c1,(((v1.below acc z1).other d12 _).other d12 _).c0,(((v1.below acc z1).other d12 _).other d12 _).c1⟩)
    (first
      | (go_at_call 72; (first | with_reducible refine (H1 W bel).mono ?_ | with_reducible refine (H1 W.drew bel.drew).mono ?_); rintro e wa ⟨⟨_,rfl,b1,t1,len1,cap1,l1,rfl,ha1,hl1,hk1,hw1,hv1,hq1⟩,⟨r,hr3⟩,hg2,hr4,hacc⟩; replace acc := hacc; have c00 := (v0.below acc z0).c0; have c01 := (v0.below acc z0).c1; have c10 := (v1.below acc z1).c0; have c11 := (v1.below acc z1).c1)
      | (go_at_call 72; have q1 := H2 wa r hr3 hg2 hr4 acc; have q2 := H2 wa.drew r hr3 hg2 hr4 acc.drew; (first | with_reducible refine q1.mono ?_ | with_reducible refine q2.mono ?_); clear q1 q2; rintro e wb ⟨⟨_,rfl,b2,t2,len2,cap2,l2,rfl,ha2,hl2,hk2,hw2,hv2,hq2⟩,hgb,hacc⟩; replace acc := hacc; replace ha1 := arr_grownD ha1 ⟨rfl,hgb⟩ hq1; clear hgb)
      | (go_at_call 80; have q1 := product_any b1 t1 len1 cap1 l1 b2 t2 len2 cap2 l2 wb ha1 ha2 hl1 hl2 (Nat.lt_of_le_of_lt hk1 hK2) (Nat.lt_of_le_of_lt hk2 hK2) hw1 hw2; (with_reducible refine q1.mono ?_); clear q1; rintro e wc ⟨rfl,⟨lz,hz,hzl,hzw,hzv⟩,hB⟩; replace acc := acc.trans (hB.mono (Nat.le_trans hsz3 acc.size)))
      | (go_at_call 79; have q1 := made_any wb.heap.size 23 (len1 + len2) (len1 + len2) lz wc hz (Nat.le_refl _) (Nat.le_of_eq hzl.symm) (by omega) hzw; (with_reducible refine q1.mono ?_); clear q1; rintro e wd ⟨v,rfl,hv,hb4⟩; obtain ⟨xa,xp,xl,xc,rfl⟩ := hv.shape; replace acc := acc.trans (hb4.mono (Nat.le_trans hsz3 acc.size)); have c20 := (v2.below acc z2).c0; have c21 := (v2.below acc z2).c1; have f20 := (v2.below acc z2).free 0; have f21 := (v2.below acc z2).free 1))
  all_goals
    rw [List.take_of_length_le (Nat.le_of_eq hzl),hzv,hv1,hv2] at hv
    go_wp2
    exact bodyPost_var Tryz.results52 rfl rfl ((v2.below acc z2).set _ _ _ _) (hv.two (v2.below acc z2) _ _) (below_two (hW.trans (acc.mono (by omega))) (by omega) _ _)
theorem pair_word (hi lo : Int) (hh : Word hi) (hl : Word lo) (w : World) :
    Calls Tryz.prog 77 #[.int .u64 hi,.int .u64 lo] w (RetNat (lo + 18446744073709551616 * hi) w) := by
  by_cases h0 : hi = 0
  · subst h0
    refine (pair_zero lo w).mono fun e w' ⟨he,hb⟩ => ⟨_,he,?_,hb⟩
    simpa using IsNat.word (w := w') hl
  · refine (pair_two hi lo (by simpa using h0) w).mono fun e w' ⟨he,hb,ha⟩ => ⟨_,he,.inr ⟨_,_,2,2,_,rfl,ha,by decide,by decide,by simp,by simp,?_,by simpa using h0,by simp [val]⟩,hb⟩
    exact Words.cons hl (Words.cons hh Words.nil)
theorem mul_words (n m : Int) (hn : Word n) (hm : Word m) (w : World) :
    Calls Tryz.prog 52 #[.agg #[.int .u64 n,.slice none 0 0],.agg #[.int .u64 m,.slice none 0 0]] w (RetNat (n * m) w) := by
  have e1 := eqnil
  have hp := mul64_any n m hn hm
  have he := mul_eq n m 0
  have hh := mulHi_word hn hm (e := 0) ⟨by decide,by decide⟩
  have hl := mulLo_word n m 0
  generalize mulLo n m 0 = lo at he hl hp
  generalize mulHi n m 0 = hi at he hh hp
  have He := Lib.hid he
  clear he
  go_enter Tryz.func52,Tryz.ntmps52
  go_wp2_with (first | (go_at_call 78; refine (hp _).mono ?_; rintro e w1 ⟨rfl,rfl⟩) | (go_at_call 77; refine (pair_word _ _ hh hl _).mono ?_; rintro e w' ⟨v,rfl,hv,hb⟩; obtain ⟨xa,xp,xl,xc,rfl⟩ := hv.shape; obtain ⟨hc,hf⟩ := bcell hb))
  rw [show n * m = lo + 18446744073709551616 * hi by have := He.out; omega]
  exact bodyPost_nat Tryz.results52 rfl rfl (by go_grown) hb hv (heap_new _ _ _ (by simp)) (by omega)
theorem mul_any (K : Nat) (hK : 1 ≤ K) (hK2 : K < 40) (v1 v2 : Value) (n m : Int) (w : World) (h1 : IsNat w v1 n) (h2 : IsNat w v2 m) (hn : n < pw K) (hm : m < pw K) :
    Calls Tryz.prog 52 #[v1,v2] w (RetNat (n * m) w) := by
  obtain ⟨x2,q2,m2,k2,rfl⟩ := h2.shape
  rcases h1 with ⟨wn,rfl⟩ | ⟨b1,t1,n1,c1,l1,rfl,r1⟩
  · rcases q2 with _ | a2
    · rcases h2 with ⟨wm,e⟩ | ⟨b2,t2,n2,c2,l2,e,r2⟩
      · simp at e
        obtain ⟨rfl,rfl,rfl⟩ := e
        exact mul_words n x2 wn wm w
      · simp at e
    · exact mul_none K hK hK2 n a2 0 0 x2 m2 k2 n m w (.inl ⟨wn,rfl⟩) h2 hn hm
  · exact mul_some K hK hK2 0 _ q2 n1 c1 x2 m2 k2 n m w (.inr ⟨b1,t1,n1,c1,l1,rfl,r1⟩) h2 hn hm
end Go.Proofs.YtgccgacpifebbaaGreatDoor
namespace Go.Proofs.YtgccgacpifebbaaGreatDoor
open Go.RowKit
set_option linter.unusedVariables false
theorem IsNat.drew {w : World} {v : Value} {n : Int} (h : IsNat w v n) : IsNat w.drew v n := h
theorem below_undrew {w w' : World} (k : Below w.drew.heap.size w.drew w') : Below w.heap.size w w' := ⟨k.os,k.tape,k.output,k.size,k.block⟩
theorem cmp_alike (v1 v2 : Value) (n m : Int) (w : World) (h1 : IsNat w v1 n) (h2 : IsNat w v2 m) (he : n = m) :
    Calls Tryz.prog 24 #[v1,v2] w fun e w' => e = .returned (.int .i64 0) ∧ Below w.heap.size w w' := by
  have h := cmp_any v1 v2 n m w h1 h2
  rw [cmpI_eq he] at h
  exact h
theorem pw_sum {i : Nat} {a b : Int} (h1 : a < pw i) (h2 : b < pw i) : a + b < pw (i + 1) := by
  have := pw_pos i
  simp only [pw]; omega
end Go.Proofs.YtgccgacpifebbaaGreatDoor
