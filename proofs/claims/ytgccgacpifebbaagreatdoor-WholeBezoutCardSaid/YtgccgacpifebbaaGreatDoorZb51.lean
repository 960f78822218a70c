/- WBezW -/
import Derived.Test.YtgccgacpifebbaaGreatDoorZb50
namespace Go.Proofs.YtgccgacpifebbaaGreatDoor
open Go.RowKit
set_option linter.unusedVariables false
theorem BArg.lenZ {w : World} {v : Value} (h : BArg w v) : ∀ p l k,v = .slice p l k → l ≤ 9223372036854775807 := by
  rintro p l k rfl
  rcases h with h | ⟨a,cap,h,hc⟩ | ⟨b,off,len,cap,zs,h,h1,h2,h3,h4,h5,h6,hc⟩
  · cases h; exact Nat.zero_le _
  · cases h; exact Nat.zero_le _
  · cases h; exact h4
set_option maxRecDepth 100000 in
set_option maxHeartbeats 8000000 in
theorem wholeBezout_walk (a b : Value) (neg not : Bool) (w : World) (ha : BArg w a) (hb0 : BArg w b) (hT : TabB w) : Calls Tryz.prog 4 #[a,b,.bool neg,.bool not] w fun e w' => e = .returned (.bool true) ∧ Below w.heap.size w w' := by
  have hBw := Below.refl w.heap.size w
  have na := ha.lenZ
  have nb := hb0.lenZ
  go_enter Tryz.func4,Tryz.ntmps4
  go_wp2_with fail
  refine (two2_any _ _ a b neg not w ha hb0 na nb).mono ?_
  rintro e v1 ⟨_,_,_,_,X,Y,rfl,hx,hy,hs,ht,BX,BY,hb⟩
  obtain ⟨bx,xx,px,lx,cx,rfl⟩ := hx.shape
  obtain ⟨by0,xy,py,ly,cy,rfl⟩ := hy.shape
  obtain ⟨bs,ps,ls,cs,rfl⟩ := hs.shape
  obtain ⟨bt,pt,lt,ct,rfl⟩ := ht.shape
  clear hs ht ha hb0 na nb
  replace hT := hT.below hb
  replace hBw := hBw.trans (hb.mono hBw.size)
  clear hb
  have hb : Below v1.heap.size v1 ((((v1.alloc (.cells #[.bool bx,.int .u64 xx,.slice px lx cx] 28)).alloc (.cells #[.bool by0,.int .u64 xy,.slice py ly cy] 28)).alloc (.cells #[.bool bs,.slice ps ls cs] 32)).alloc (.cells #[.bool bt,.slice pt lt ct] 32)) := by go_grown
  have ux := ((((Row3.new v1 (.bool bx) (.int .u64 xx) (.slice px lx cx) (v1.heap.size) rfl).alloc (.cells #[.bool by0,.int .u64 xy,.slice py ly cy] 28)).alloc (.cells #[.bool bs,.slice ps ls cs] 32)).alloc (.cells #[.bool bt,.slice pt lt ct] 32))
  have uy := (((Row3.new (v1.alloc (.cells #[.bool bx,.int .u64 xx,.slice px lx cx] 28)) (.bool by0) (.int .u64 xy) (.slice py ly cy) (v1.heap.size + 1) (by simp)).alloc (.cells #[.bool bs,.slice ps ls cs] 32)).alloc (.cells #[.bool bt,.slice pt lt ct] 32))
  replace hT := hT.below hb
  replace hx := hx.below hb
  replace hy := hy.below hb
  replace hBw := hBw.trans (hb.mono hBw.size)
  clear hb
  have ux_0 := ux.cell0
  have ux_1 := ux.cell1
  have ux_2 := ux.cell2
  have uy_0 := uy.cell0
  have uy_1 := uy.cell1
  have uy_2 := uy.cell2
  go_wp2_with fail
  clear ux_0 ux_1 ux_2 uy_0 uy_1 uy_2
  generalize ((((v1.alloc (.cells #[.bool bx,.int .u64 xx,.slice px lx cx] 28)).alloc (.cells #[.bool by0,.int .u64 xy,.slice py ly cy] 28)).alloc (.cells #[.bool bs,.slice ps ls cs] 32)).alloc (.cells #[.bool bt,.slice pt lt ct] 32)) = M1 at hBw hT hx hy ux uy ⊢
  generalize v1.heap.size = aM1 at ux uy ⊢
  have SX := lt_5 BX
  have SY := lt_5 BY
  clear BX BY
  have B6 : ∀ {z : Int},absI z < pw 5 → absI z < pw 6 := fun h => Int.lt_of_lt_of_le h (pw_mono (by decide))
  have B20 : ∀ {z : Int} {k : Nat},k ≤ 20 → absI z < pw k → absI z < pw 20 := fun hk h => Int.lt_of_lt_of_le h (pw_mono hk)
  refine (bezout_all _ _ X Y M1 hx hy (B6 SX) (B6 SY)).mono ?_
  rintro e v2 ⟨_,_,_,U,V,rfl,hg,hu,hv,hA,hb⟩
  obtain ⟨bg,xg,pg,lg,cg,rfl⟩ := hg.shape
  obtain ⟨bu,xu,pu,lu,cu,rfl⟩ := hu.shape
  obtain ⟨bv,xv,pv,lv,cv,rfl⟩ := hv.shape
  replace hT := hT.below hb
  replace hx := hx.below hb
  replace hy := hy.below hb
  replace ux := ux.below hb ux.lt
  replace uy := uy.below hb uy.lt
  replace hBw := hBw.trans (hb.mono hBw.size)
  clear hb
  obtain ⟨G,hG⟩ : ∃ G : Nat,Int.gcd X Y = G := ⟨_,rfl⟩
  have hGY : Int.gcd Y X = G := (Int.gcd_comm Y X).trans hG
  rw [hG] at hg
  obtain ⟨hA1,BU,BV,hA4⟩ := hA
  rw [hG] at hA1 hA4
  have hb : Below v2.heap.size v2 (((v2.alloc (.cells #[.bool bg,.int .u64 xg,.slice pg lg cg] 28)).alloc (.cells #[.bool bu,.int .u64 xu,.slice pu lu cu] 28)).alloc (.cells #[.bool bv,.int .u64 xv,.slice pv lv cv] 28)) := by go_grown
  have ug := (((Row3.new v2 (.bool bg) (.int .u64 xg) (.slice pg lg cg) (v2.heap.size) rfl).alloc (.cells #[.bool bu,.int .u64 xu,.slice pu lu cu] 28)).alloc (.cells #[.bool bv,.int .u64 xv,.slice pv lv cv] 28))
  have uu := ((Row3.new (v2.alloc (.cells #[.bool bg,.int .u64 xg,.slice pg lg cg] 28)) (.bool bu) (.int .u64 xu) (.slice pu lu cu) (v2.heap.size + 1) (by simp)).alloc (.cells #[.bool bv,.int .u64 xv,.slice pv lv cv] 28))
  have uv := (Row3.new ((v2.alloc (.cells #[.bool bg,.int .u64 xg,.slice pg lg cg] 28)).alloc (.cells #[.bool bu,.int .u64 xu,.slice pu lu cu] 28)) (.bool bv) (.int .u64 xv) (.slice pv lv cv) (v2.heap.size + 1 + 1) (by simp))
  replace hT := hT.below hb
  replace hx := hx.below hb
  replace hy := hy.below hb
  replace ux := ux.below hb ux.lt
  replace uy := uy.below hb uy.lt
  replace hg := hg.below hb
  replace hu := hu.below hb
  replace hv := hv.below hb
  replace hBw := hBw.trans (hb.mono hBw.size)
  clear hb
  go_wp2_with fail
  generalize (((v2.alloc (.cells #[.bool bg,.int .u64 xg,.slice pg lg cg] 28)).alloc (.cells #[.bool bu,.int .u64 xu,.slice pu lu cu] 28)).alloc (.cells #[.bool bv,.int .u64 xv,.slice pv lv cv] 28)) = M2 at hBw hT hx hy ux uy hg hu hv ug uu uv ⊢
  generalize v2.heap.size = aM2 at ug uu uv ⊢
  have Bhx : absI X < pw 20 := B20 (by decide) SX
  have Bhy : absI Y < pw 20 := B20 (by decide) SY
  have Bhu := BU
  have Bhv := BV
  have Bm1 : absI (X * U) < pw 40 := absI_mul_lt Bhx BU
  have Bm2 : absI (Y * V) < pw 40 := absI_mul_lt Bhy BV
  have aG : absI (G : Int) = (G : Int) := by unfold absI; rw [if_neg (by omega)]
  have aG2 : (G : Int) = absI (G : Int) := aG.symm
  obtain ⟨sG,HS,hs0,hs1⟩ : ∃ s,Hid (sgnI (G : Int) = s) ∧ decide (s < 0) = false ∧ (s == 0) = decide (G = 0) := by
    refine ⟨_,Lib.hid rfl,?_,?_⟩ <;> unfold sgnI <;> rw [if_neg (by omega)]
    · split <;> rfl
    · by_cases h : G = 0 <;> simp [h]
  have T40 : ∀ (W : World) (va vb : Value),IsInt W va (X * U) → IsInt W vb (Y * V) → Calls Tryz.prog 20 #[va,vb] W (RetInt (X * U + Y * V) W) := fun W va vb h1 h2 => add_int 40 (by decide) (by decide) va vb _ _ W h1 h2 Bm1 Bm2
  have GX : ∀ (W : World) (h : TabB W) (h1 : IsInt W (.agg #[.bool bx,.int .u64 xx,.slice px lx cx]) X) (h2 : IsInt W (.agg #[.bool by0,.int .u64 xy,.slice py ly cy]) Y),Calls Tryz.prog 17 #[.agg #[.bool bx,.int .u64 xx,.slice px lx cx],.agg #[.bool by0,.int .u64 xy,.slice py ly cy]] W (RetNat (G : Int) W) := fun W h h1 h2 => by have q := gcd_any 20 (by decide) _ _ X Y W h h1 h2 Bhx Bhy; rw [hG] at q; exact q
  have GY : ∀ (W : World) (h : TabB W) (h1 : IsInt W (.agg #[.bool by0,.int .u64 xy,.slice py ly cy]) Y) (h2 : IsInt W (.agg #[.bool bx,.int .u64 xx,.slice px lx cx]) X),Calls Tryz.prog 17 #[.agg #[.bool by0,.int .u64 xy,.slice py ly cy],.agg #[.bool bx,.int .u64 xx,.slice px lx cx]] W (RetNat (G : Int) W) := fun W h h1 h2 => by have q := gcd_any 20 (by decide) _ _ Y X W h h1 h2 Bhy Bhx; rw [hGY] at q; exact q
  have zux := ux.lt
  have zuy := uy.lt
  have zug := ug.lt
  have zuu := uu.lt
  have zuv := uv.lt
  have acc := Below.refl M2.heap.size M2
  have csr : ∀ w',Below M2.heap.size M2 w' → w'.cell? ⟨aM1,0,none⟩ = some (.bool bx) ∧ w'.cell? ⟨aM1,1,none⟩ = some (.int .u64 xx) ∧ w'.cell? ⟨aM1,2,none⟩ = some (.slice px lx cx) ∧ w'.cell? ⟨aM1 + 1,0,none⟩ = some (.bool by0) ∧ w'.cell? ⟨aM1 + 1,1,none⟩ = some (.int .u64 xy) ∧ w'.cell? ⟨aM1 + 1,2,none⟩ = some (.slice py ly cy) ∧ w'.cell? ⟨aM2,0,none⟩ = some (.bool bg) ∧ w'.cell? ⟨aM2,1,none⟩ = some (.int .u64 xg) ∧ w'.cell? ⟨aM2,2,none⟩ = some (.slice pg lg cg) ∧ w'.cell? ⟨aM2 + 1,0,none⟩ = some (.bool bu) ∧ w'.cell? ⟨aM2 + 1,1,none⟩ = some (.int .u64 xu) ∧ w'.cell? ⟨aM2 + 1,2,none⟩ = some (.slice pu lu cu) ∧ w'.cell? ⟨aM2 + 1 + 1,0,none⟩ = some (.bool bv) ∧ w'.cell? ⟨aM2 + 1 + 1,1,none⟩ = some (.int .u64 xv) ∧ w'.cell? ⟨aM2 + 1 + 1,2,none⟩ = some (.slice pv lv cv) := fun w' acc => ⟨(ux.below acc zux).cell0,(ux.below acc zux).cell1,(ux.below acc zux).cell2,(uy.below acc zuy).cell0,(uy.below acc zuy).cell1,(uy.below acc zuy).cell2,(ug.below acc zug).cell0,(ug.below acc zug).cell1,(ug.below acc zug).cell2,(uu.below acc zuu).cell0,(uu.below acc zuu).cell1,(uu.below acc zuu).cell2,(uv.below acc zuv).cell0,(uv.below acc zuv).cell1,(uv.below acc zuv).cell2⟩
  obtain ⟨ux_0,ux_1,ux_2,uy_0,uy_1,uy_2,ug_0,ug_1,ug_2,uu_0,uu_1,uu_2,uv_0,uv_1,uv_2⟩ := csr _ acc
  go_region_held3 (fun w' => w'.cell? ⟨aM1,0,none⟩ = some (.bool bx) ∧ w'.cell? ⟨aM1,1,none⟩ = some (.int .u64 xx) ∧ w'.cell? ⟨aM1,2,none⟩ = some (.slice px lx cx) ∧ w'.cell? ⟨aM1 + 1,0,none⟩ = some (.bool by0) ∧ w'.cell? ⟨aM1 + 1,1,none⟩ = some (.int .u64 xy) ∧ w'.cell? ⟨aM1 + 1,2,none⟩ = some (.slice py ly cy) ∧ w'.cell? ⟨aM2,0,none⟩ = some (.bool bg) ∧ w'.cell? ⟨aM2,1,none⟩ = some (.int .u64 xg) ∧ w'.cell? ⟨aM2,2,none⟩ = some (.slice pg lg cg) ∧ w'.cell? ⟨aM2 + 1,0,none⟩ = some (.bool bu) ∧ w'.cell? ⟨aM2 + 1,1,none⟩ = some (.int .u64 xu) ∧ w'.cell? ⟨aM2 + 1,2,none⟩ = some (.slice pu lu cu) ∧ w'.cell? ⟨aM2 + 1 + 1,0,none⟩ = some (.bool bv) ∧ w'.cell? ⟨aM2 + 1 + 1,1,none⟩ = some (.int .u64 xv) ∧ w'.cell? ⟨aM2 + 1 + 1,2,none⟩ = some (.slice pv lv cv))
    (first | with_reducible exact csr _ acc | with_reducible exact csr _ acc.drew)
    (first
      | (go_at_call 13; (first | (have q := known2_true M2.drew; (with_reducible refine q.mono ?_); clear q) | (have q := known2_true M2; (with_reducible refine q.mono ?_); clear q)); rintro e r0 ⟨rfl,hb⟩; (first | replace hb : Below M2.heap.size M2 r0 := hb | replace hb := below_undrew (w := M2) hb); replace acc := below_acc acc acc.size hb; clear hb ux_0 ux_1 ux_2 uy_0 uy_1 uy_2 ug_0 ug_1 ug_2 uu_0 uu_1 uu_2 uv_0 uv_1 uv_2; obtain ⟨ux_0,ux_1,ux_2,uy_0,uy_1,uy_2,ug_0,ug_1,ug_2,uu_0,uu_1,uu_2,uv_0,uv_1,uv_2⟩ := csr _ acc)
      | (go_at_call 19; (with_reducible refine (mul_int 20 (by decide) (by decide) _ _ X U r0 (hx.below acc) (hu.below acc) Bhx Bhu).mono ?_); rintro e r1 ⟨vm1,rfl,m1,hb⟩; obtain ⟨bm1,xm1,pm1,lm1,cm1,rfl⟩ := m1.shape; replace acc := nx acc hb; clear hb ux_0 ux_1 ux_2 uy_0 uy_1 uy_2 ug_0 ug_1 ug_2 uu_0 uu_1 uu_2 uv_0 uv_1 uv_2; obtain ⟨ux_0,ux_1,ux_2,uy_0,uy_1,uy_2,ug_0,ug_1,ug_2,uu_0,uu_1,uu_2,uv_0,uv_1,uv_2⟩ := csr _ acc)
      | (go_at_call 19; (with_reducible refine (mul_int 20 (by decide) (by decide) _ _ Y V r1 (hy.below acc) (hv.below acc) Bhy Bhv).mono ?_); rintro e r2 ⟨vm2,rfl,m2,hb⟩; obtain ⟨bm2,xm2,pm2,lm2,cm2,rfl⟩ := m2.shape; replace acc := nx acc hb; replace m1 := m1.below hb; clear hb ux_0 ux_1 ux_2 uy_0 uy_1 uy_2 ug_0 ug_1 ug_2 uu_0 uu_1 uu_2 uv_0 uv_1 uv_2; obtain ⟨ux_0,ux_1,ux_2,uy_0,uy_1,uy_2,ug_0,ug_1,ug_2,uu_0,uu_1,uu_2,uv_0,uv_1,uv_2⟩ := csr _ acc)
      | (go_at_call 20; (with_reducible refine (T40 r2 _ _ m1 m2).mono ?_); rintro e r3 ⟨vm3,rfl,m3,hb⟩; obtain ⟨bm3,xm3,pm3,lm3,cm3,rfl⟩ := m3.shape; replace acc := nx acc hb; clear hb m1 m2 ux_0 ux_1 ux_2 uy_0 uy_1 uy_2 ug_0 ug_1 ug_2 uu_0 uu_1 uu_2 uv_0 uv_1 uv_2; obtain ⟨ux_0,ux_1,ux_2,uy_0,uy_1,uy_2,ug_0,ug_1,ug_2,uu_0,uu_1,uu_2,uv_0,uv_1,uv_2⟩ := csr _ acc)
      | (go_at_call 21; (with_reducible refine (wcmp_alike _ _ (X * U + Y * V) (G : Int) r3 m3 (hg.below acc) hA1).mono ?_); rintro e r4 ⟨rfl,hb⟩; replace acc := nx acc hb; clear hb m3 ux_0 ux_1 ux_2 uy_0 uy_1 uy_2 ug_0 ug_1 ug_2 uu_0 uu_1 uu_2 uv_0 uv_1 uv_2; obtain ⟨ux_0,ux_1,ux_2,uy_0,uy_1,uy_2,ug_0,ug_1,ug_2,uu_0,uu_1,uu_2,uv_0,uv_1,uv_2⟩ := csr _ acc)
      | (go_at_call 22; (with_reducible refine (sign_s _ (G : Int) _ HS r4 (hg.below acc)).mono ?_); rintro e r5 ⟨rfl,hb⟩; replace acc := nx acc hb; clear hb ux_0 ux_1 ux_2 uy_0 uy_1 uy_2 ug_0 ug_1 ug_2 uu_0 uu_1 uu_2 uv_0 uv_1 uv_2; obtain ⟨ux_0,ux_1,ux_2,uy_0,uy_1,uy_2,ug_0,ug_1,ug_2,uu_0,uu_1,uu_2,uv_0,uv_1,uv_2⟩ := csr _ acc)
      | (go_at_call 17; (with_reducible refine (GX r5 (hT.below acc) (hx.below acc) (hy.below acc)).mono ?_); rintro e r6 ⟨vk1,rfl,k1,hb⟩; obtain ⟨xk1,pk1,lk1,ck1,rfl⟩ := k1.shape; replace acc := nx acc hb; clear hb ux_0 ux_1 ux_2 uy_0 uy_1 uy_2 ug_0 ug_1 ug_2 uu_0 uu_1 uu_2 uv_0 uv_1 uv_2; obtain ⟨ux_0,ux_1,ux_2,uy_0,uy_1,uy_2,ug_0,ug_1,ug_2,uu_0,uu_1,uu_2,uv_0,uv_1,uv_2⟩ := csr _ acc)
      | (go_at_call 23; (with_reducible refine (from_f _ (G : Int) r6 k1).mono ?_); rintro e r7 ⟨vm4,rfl,m4,hb⟩; obtain ⟨bm4,xm4,pm4,lm4,cm4,rfl⟩ := m4.shape; replace acc := nx acc hb; clear hb k1 ux_0 ux_1 ux_2 uy_0 uy_1 uy_2 ug_0 ug_1 ug_2 uu_0 uu_1 uu_2 uv_0 uv_1 uv_2; obtain ⟨ux_0,ux_1,ux_2,uy_0,uy_1,uy_2,ug_0,ug_1,ug_2,uu_0,uu_1,uu_2,uv_0,uv_1,uv_2⟩ := csr _ acc)
      | (go_at_call 21; (with_reducible refine (wcmp_alike _ _ (G : Int) (G : Int) r7 m4 (hg.below acc) rfl).mono ?_); rintro e r8 ⟨rfl,hb⟩; replace acc := nx acc hb; clear hb m4 ux_0 ux_1 ux_2 uy_0 uy_1 uy_2 ug_0 ug_1 ug_2 uu_0 uu_1 uu_2 uv_0 uv_1 uv_2; obtain ⟨ux_0,ux_1,ux_2,uy_0,uy_1,uy_2,ug_0,ug_1,ug_2,uu_0,uu_1,uu_2,uv_0,uv_1,uv_2⟩ := csr _ acc)
      | (go_at_call 17; (with_reducible refine (GY r8 (hT.below acc) (hy.below acc) (hx.below acc)).mono ?_); rintro e r9 ⟨vk2,rfl,k2,hb⟩; obtain ⟨xk2,pk2,lk2,ck2,rfl⟩ := k2.shape; replace acc := nx acc hb; clear hb ux_0 ux_1 ux_2 uy_0 uy_1 uy_2 ug_0 ug_1 ug_2 uu_0 uu_1 uu_2 uv_0 uv_1 uv_2; obtain ⟨ux_0,ux_1,ux_2,uy_0,uy_1,uy_2,ug_0,ug_1,ug_2,uu_0,uu_1,uu_2,uv_0,uv_1,uv_2⟩ := csr _ acc)
      | (go_at_call 25; (with_reducible refine (abs_int _ (G : Int) r9 (hg.below acc)).mono ?_); rintro e r10 ⟨vk3,rfl,k3,hb⟩; obtain ⟨xk3,pk3,lk3,ck3,rfl⟩ := k3.shape; replace acc := nx acc hb; replace k2 := k2.below hb; clear hb ux_0 ux_1 ux_2 uy_0 uy_1 uy_2 ug_0 ug_1 ug_2 uu_0 uu_1 uu_2 uv_0 uv_1 uv_2; obtain ⟨ux_0,ux_1,ux_2,uy_0,uy_1,uy_2,ug_0,ug_1,ug_2,uu_0,uu_1,uu_2,uv_0,uv_1,uv_2⟩ := csr _ acc)
      | (go_at_call 24; (with_reducible refine (cmp_alike _ _ (G : Int) (absI (G : Int)) r10 k2 k3 aG2).mono ?_); rintro e r11 ⟨rfl,hb⟩; replace acc := nx acc hb; clear hb k2 k3 ux_0 ux_1 ux_2 uy_0 uy_1 uy_2 ug_0 ug_1 ug_2 uu_0 uu_1 uu_2 uv_0 uv_1 uv_2; obtain ⟨ux_0,ux_1,ux_2,uy_0,uy_1,uy_2,ug_0,ug_1,ug_2,uu_0,uu_1,uu_2,uv_0,uv_1,uv_2⟩ := csr _ acc))
  all_goals
    replace hT := hT.below acc
    replace hx := hx.below acc
    replace hy := hy.below acc
    replace ux := ux.below acc ux.lt
    replace uy := uy.below acc uy.lt
    replace hg := hg.below acc
    replace hu := hu.below acc
    replace hv := hv.below acc
    replace ug := ug.below acc ug.lt
    replace uu := uu.below acc uu.lt
    replace uv := uv.below acc uv.lt
    replace hBw := hBw.trans (acc.mono hBw.size)
    clear acc ux_0 ux_1 ux_2 uy_0 uy_1 uy_2 ug_0 ug_1 ug_2 uu_0 uu_1 uu_2 uv_0 uv_1 uv_2 csr
    clear GX GY T40 Bm1 Bm2
    have ug_0 := ug.cell0
    have ug_1 := ug.cell1
    have ug_2 := ug.cell2
    go_wp2_with fail
    clear ug_0 ug_1 ug_2
    refine (sign_s _ (G : Int) _ HS r11 hg).mono ?_
    rintro e v3 ⟨rfl,hb⟩
    replace hT := hT.below hb
    replace hx := hx.below hb
    replace hy := hy.below hb
    replace ux := ux.below hb ux.lt
    replace uy := uy.below hb uy.lt
    replace hg := hg.below hb
    replace hu := hu.below hb
    replace hv := hv.below hb
    replace ug := ug.below hb ug.lt
    replace uu := uu.below hb uu.lt
    replace uv := uv.below hb uv.lt
    replace hBw := hBw.trans (hb.mono hBw.size)
    clear hb
    by_cases hG0 : G = 0
    · have hs2 : (sG == 0) = true := by rw [hs1]; exact decide_eq_true hG0
      obtain ⟨hx0,hy0⟩ := Int.gcd_eq_zero_iff.1 (hG.trans hG0)
      have HX : Hid (sgnI X = 0) := Lib.hid (sgnI_zero hx0)
      have HY : Hid (sgnI Y = 0) := Lib.hid (sgnI_zero hy0)
      clear hs1 hs0
      have ux_0 := ux.cell0
      have ux_1 := ux.cell1
      have ux_2 := ux.cell2
      go_wp2_with fail
      clear ux_0 ux_1 ux_2
      refine (sign_s _ X _ HX v3 hx).mono ?_
      rintro e v4 ⟨rfl,hb⟩
      replace hT := hT.below hb
      replace hx := hx.below hb
      replace hy := hy.below hb
      replace ux := ux.below hb ux.lt
      replace uy := uy.below hb uy.lt
      replace hg := hg.below hb
      replace hu := hu.below hb
      replace hv := hv.below hb
      replace ug := ug.below hb ug.lt
      replace uu := uu.below hb uu.lt
      replace uv := uv.below hb uv.lt
      replace hBw := hBw.trans (hb.mono hBw.size)
      clear hb
      have uy_0 := uy.cell0
      have uy_1 := uy.cell1
      have uy_2 := uy.cell2
      go_wp2_with fail
      clear uy_0 uy_1 uy_2
      refine (sign_s _ Y _ HY v4 hy).mono ?_
      rintro e v5 ⟨rfl,hb⟩
      replace hT := hT.below hb
      replace hx := hx.below hb
      replace hy := hy.below hb
      replace ux := ux.below hb ux.lt
      replace uy := uy.below hb uy.lt
      replace hg := hg.below hb
      replace hu := hu.below hb
      replace hv := hv.below hb
      replace ug := ug.below hb ug.lt
      replace uu := uu.below hb uu.lt
      replace uv := uv.below hb uv.lt
      replace hBw := hBw.trans (hb.mono hBw.size)
      clear hb
      go_wp2
      go_ret
      exact ⟨rfl,hBw⟩
    · have hs2 : (sG == 0) = false := by rw [hs1]; exact decide_eq_false hG0
      have gp := gcd_parts (X := X) (Y := Y) (by rw [hG]; omega)
      rw [hG] at gp
      obtain ⟨g1,g2,g3,g4,g5⟩ := gp
      clear hs1 hs0
      have BGX : absI (G : Int) < pw 20 := by
        rw [aG]
        by_cases hY : Y = 0
        · have h := Int.gcd_zero_right X
          rw [← hY,hG] at h
          have h2 := Bhx
          rw [absI_nat,← h] at h2
          exact h2
        · have h := gcd_le_abs (X := X) hY
          rw [hG] at h
          omega
      have KP : absI (qD X G) < pw 20 := B20 (by decide) (qD_bd SX (by decide +kernel))
      have KQ : absI (qD Y G) < pw 20 := B20 (by decide) (qD_bd SY (by decide +kernel))
      have ux_0 := ux.cell0
      have ux_1 := ux.cell1
      have ux_2 := ux.cell2
      have ug_0 := ug.cell0
      have ug_1 := ug.cell1
      have ug_2 := ug.cell2
      go_wp2_with fail
      clear ux_0 ux_1 ux_2 ug_0 ug_1 ug_2
      refine (div_gen 20 (by decide) _ _ X G v3 hx hg Bhx BGX (by decide +kernel)).mono ?_
      rintro e v4 ⟨_,_,ok1,rfl,-,hp,hr,hb⟩
      obtain ⟨bp,xp,pp,lp,cp,rfl⟩ := hp.shape
      obtain ⟨br,xr,pr,lr,cr,rfl⟩ := hr.shape
      replace hT := hT.below hb
      replace hx := hx.below hb
      replace hy := hy.below hb
      replace ux := ux.below hb ux.lt
      replace uy := uy.below hb uy.lt
      replace hg := hg.below hb
      replace hu := hu.below hb
      replace hv := hv.below hb
      replace ug := ug.below hb ug.lt
      replace uu := uu.below hb uu.lt
      replace uv := uv.below hb uv.lt
      replace hBw := hBw.trans (hb.mono hBw.size)
      clear hb
      have hb : Below v4.heap.size v4 ((v4.alloc (.cells #[.bool bp,.int .u64 xp,.slice pp lp cp] 28)).alloc (.cells #[.bool br,.int .u64 xr,.slice pr lr cr] 28)) := by go_grown
      have up := ((Row3.new v4 (.bool bp) (.int .u64 xp) (.slice pp lp cp) (v4.heap.size) rfl).alloc (.cells #[.bool br,.int .u64 xr,.slice pr lr cr] 28))
      have ur := (Row3.new (v4.alloc (.cells #[.bool bp,.int .u64 xp,.slice pp lp cp] 28)) (.bool br) (.int .u64 xr) (.slice pr lr cr) (v4.heap.size + 1) (by simp))
      replace hT := hT.below hb
      replace hx := hx.below hb
      replace hy := hy.below hb
      replace ux := ux.below hb ux.lt
      replace uy := uy.below hb uy.lt
      replace hg := hg.below hb
      replace hu := hu.below hb
      replace hv := hv.below hb
      replace ug := ug.below hb ug.lt
      replace uu := uu.below hb uu.lt
      replace uv := uv.below hb uv.lt
      replace hp := hp.below hb
      replace hr := hr.below hb
      replace hBw := hBw.trans (hb.mono hBw.size)
      clear hb
      have uy_0 := uy.cell0
      have uy_1 := uy.cell1
      have uy_2 := uy.cell2
      have ug_0 := ug.cell0
      have ug_1 := ug.cell1
      have ug_2 := ug.cell2
      go_wp2_with fail
      clear uy_0 uy_1 uy_2 ug_0 ug_1 ug_2
      generalize ((v4.alloc (.cells #[.bool bp,.int .u64 xp,.slice pp lp cp] 28)).alloc (.cells #[.bool br,.int .u64 xr,.slice pr lr cr] 28)) = M3 at hBw hT hx hy ux uy hg hu hv ug uu uv hp hr up ur ⊢
      generalize v4.heap.size = aM3 at up ur ⊢
      refine (div_gen 20 (by decide) _ _ Y G M3 hy hg Bhy BGX (by decide +kernel)).mono ?_
      rintro e v5 ⟨_,_,ok2,rfl,-,hq,hd,hb⟩
      obtain ⟨bq,xq,pq,lq,cq,rfl⟩ := hq.shape
      obtain ⟨bd,xd,pd,ld,cd,rfl⟩ := hd.shape
      replace hT := hT.below hb
      replace hx := hx.below hb
      replace hy := hy.below hb
      replace ux := ux.below hb ux.lt
      replace uy := uy.below hb uy.lt
      replace hg := hg.below hb
      replace hu := hu.below hb
      replace hv := hv.below hb
      replace ug := ug.below hb ug.lt
      replace uu := uu.below hb uu.lt
      replace uv := uv.below hb uv.lt
      replace hp := hp.below hb
      replace hr := hr.below hb
      replace up := up.below hb up.lt
      replace ur := ur.below hb ur.lt
      replace hBw := hBw.trans (hb.mono hBw.size)
      clear hb
      have hb : Below v5.heap.size v5 ((v5.alloc (.cells #[.bool bq,.int .u64 xq,.slice pq lq cq] 28)).alloc (.cells #[.bool bd,.int .u64 xd,.slice pd ld cd] 28)) := by go_grown
      have uq := ((Row3.new v5 (.bool bq) (.int .u64 xq) (.slice pq lq cq) (v5.heap.size) rfl).alloc (.cells #[.bool bd,.int .u64 xd,.slice pd ld cd] 28))
      have ud := (Row3.new (v5.alloc (.cells #[.bool bq,.int .u64 xq,.slice pq lq cq] 28)) (.bool bd) (.int .u64 xd) (.slice pd ld cd) (v5.heap.size + 1) (by simp))
      replace hT := hT.below hb
      replace hx := hx.below hb
      replace hy := hy.below hb
      replace ux := ux.below hb ux.lt
      replace uy := uy.below hb uy.lt
      replace hg := hg.below hb
      replace hu := hu.below hb
      replace hv := hv.below hb
      replace ug := ug.below hb ug.lt
      replace uu := uu.below hb uu.lt
      replace uv := uv.below hb uv.lt
      replace hp := hp.below hb
      replace hr := hr.below hb
      replace up := up.below hb up.lt
      replace ur := ur.below hb ur.lt
      replace hq := hq.below hb
      replace hd := hd.below hb
      replace hBw := hBw.trans (hb.mono hBw.size)
      clear hb
      go_wp2_with fail
      generalize ((v5.alloc (.cells #[.bool bq,.int .u64 xq,.slice pq lq cq] 28)).alloc (.cells #[.bool bd,.int .u64 xd,.slice pd ld cd] 28)) = M4 at hBw hT hx hy ux uy hg hu hv ug uu uv hp hr up ur hq hd uq ud ⊢
      generalize v5.heap.size = aM4 at uq ud ⊢
      have HR : Hid (sgnI (rD X G) = 0) := Lib.hid (sgnI_zero g2)
      have HD : Hid (sgnI (rD Y G) = 0) := Lib.hid (sgnI_zero g4)
      have GP : ∀ (W : World) (h : TabB W) (h1 : IsInt W (.agg #[.bool bp,.int .u64 xp,.slice pp lp cp]) (qD X G)) (h2 : IsInt W (.agg #[.bool bq,.int .u64 xq,.slice pq lq cq]) (qD Y G)),Calls Tryz.prog 17 #[.agg #[.bool bp,.int .u64 xp,.slice pp lp cp],.agg #[.bool bq,.int .u64 xq,.slice pq lq cq]] W (fun e w' => e = .returned (.agg #[.int .u64 1,.slice none 0 0]) ∧ Below W.heap.size W w') := fun W h h1 h2 => by
        refine (gcd_any 20 (by decide) _ _ _ _ W h h1 h2 KP KQ).mono ?_
        rw [g5]
        rintro e w' ⟨v,rfl,hv,hb⟩
        have hv1 := hv.one (by decide)
        exact ⟨by rw [hv1]; rfl,hb⟩
      clear hs2
      by_cases hY : Y = 0
      · have HY : Hid (sgnI Y = 0) := Lib.hid (sgnI_zero hY)
        have zur := ur.lt
        have zud := ud.lt
        have zup := up.lt
        have zuq := uq.lt
        have zuy := uy.lt
        have acc := Below.refl M4.heap.size M4
        have cst : ∀ w',Below M4.heap.size M4 w' → w'.cell? ⟨aM3 + 1,0,none⟩ = some (.bool br) ∧ w'.cell? ⟨aM3 + 1,1,none⟩ = some (.int .u64 xr) ∧ w'.cell? ⟨aM3 + 1,2,none⟩ = some (.slice pr lr cr) ∧ w'.cell? ⟨aM4 + 1,0,none⟩ = some (.bool bd) ∧ w'.cell? ⟨aM4 + 1,1,none⟩ = some (.int .u64 xd) ∧ w'.cell? ⟨aM4 + 1,2,none⟩ = some (.slice pd ld cd) ∧ w'.cell? ⟨aM3,0,none⟩ = some (.bool bp) ∧ w'.cell? ⟨aM3,1,none⟩ = some (.int .u64 xp) ∧ w'.cell? ⟨aM3,2,none⟩ = some (.slice pp lp cp) ∧ w'.cell? ⟨aM4,0,none⟩ = some (.bool bq) ∧ w'.cell? ⟨aM4,1,none⟩ = some (.int .u64 xq) ∧ w'.cell? ⟨aM4,2,none⟩ = some (.slice pq lq cq) ∧ w'.cell? ⟨aM1 + 1,0,none⟩ = some (.bool by0) ∧ w'.cell? ⟨aM1 + 1,1,none⟩ = some (.int .u64 xy) ∧ w'.cell? ⟨aM1 + 1,2,none⟩ = some (.slice py ly cy) := fun w' acc => ⟨(ur.below acc zur).cell0,(ur.below acc zur).cell1,(ur.below acc zur).cell2,(ud.below acc zud).cell0,(ud.below acc zud).cell1,(ud.below acc zud).cell2,(up.below acc zup).cell0,(up.below acc zup).cell1,(up.below acc zup).cell2,(uq.below acc zuq).cell0,(uq.below acc zuq).cell1,(uq.below acc zuq).cell2,(uy.below acc zuy).cell0,(uy.below acc zuy).cell1,(uy.below acc zuy).cell2⟩
        obtain ⟨ur_0,ur_1,ur_2,ud_0,ud_1,ud_2,up_0,up_1,up_2,uq_0,uq_1,uq_2,uy_0,uy_1,uy_2⟩ := cst _ acc
        refine wp_region_held_drew (S := fun w' => w'.cell? ⟨aM3 + 1,0,none⟩ = some (.bool br) ∧ w'.cell? ⟨aM3 + 1,1,none⟩ = some (.int .u64 xr) ∧ w'.cell? ⟨aM3 + 1,2,none⟩ = some (.slice pr lr cr) ∧ w'.cell? ⟨aM4 + 1,0,none⟩ = some (.bool bd) ∧ w'.cell? ⟨aM4 + 1,1,none⟩ = some (.int .u64 xd) ∧ w'.cell? ⟨aM4 + 1,2,none⟩ = some (.slice pd ld cd) ∧ w'.cell? ⟨aM3,0,none⟩ = some (.bool bp) ∧ w'.cell? ⟨aM3,1,none⟩ = some (.int .u64 xp) ∧ w'.cell? ⟨aM3,2,none⟩ = some (.slice pp lp cp) ∧ w'.cell? ⟨aM4,0,none⟩ = some (.bool bq) ∧ w'.cell? ⟨aM4,1,none⟩ = some (.int .u64 xq) ∧ w'.cell? ⟨aM4,2,none⟩ = some (.slice pq lq cq) ∧ w'.cell? ⟨aM1 + 1,0,none⟩ = some (.bool by0) ∧ w'.cell? ⟨aM1 + 1,1,none⟩ = some (.int .u64 xy) ∧ w'.cell? ⟨aM1 + 1,2,none⟩ = some (.slice py ly cy)) (by kernel_rfl) ?_ (fun hH0 => ?_)
        · (try dsimp only); first | with_reducible exact cst _ acc | with_reducible exact cst _ acc.drew
        refine wpAnyH_take (i := 0) (oi := { dst := some 101,op := Op.load 28 (Operand.tmp 17),type := 28,pos := "law.go:102",after := #[],guard := none }) (v := .agg #[.bool br,.int .u64 xr,.slice pr lr cr]) rfl (by kernel_rfl) (by kernel_rfl) (by kernel_rfl) (fun _ _ _ h => h) (Or.inl ⟨by rfl,?_⟩) (by assumption) ?_
        · (intro w hSw; (try dsimp only at hSw); go_simp) <;> (try with_reducible rfl)
        try simp only [Act.put,List.setIfInBounds_toArray,List.set_cons_zero,List.set_cons_succ]
        refine wpAnyH_ready (rs := [1]) (by kernel_rfl) (by simp) ?_
        refine AllReadyH.cons (o := { dst := some 102,op := Op.call { callee := Callee.value (Operand.func 22),args := #[Operand.tmp 101],argTypes := #[28] },type := 3,pos := "law.go:102",after := #[{ on := 0,ground := Ground.data }],guard := none }) rfl (fun K hK => ?_) AllReadyH.nil
        go_simp
        go_at_call 22
        have q := sign_s _ (rD X G) _ HR M4.drew (hr.below acc.drew)
        (with_reducible refine q.mono ?_); clear q
        rintro e t0 ⟨rfl,hb⟩
        (first | replace hb : Below M4.heap.size M4 t0 := hb | replace hb := below_undrew (w := M4) hb)
        replace acc := below_acc acc acc.size hb
        clear hb ur_0 ur_1 ur_2 ud_0 ud_1 ud_2 up_0 up_1 up_2 uq_0 uq_1 uq_2 uy_0 uy_1 uy_2
        obtain ⟨ur_0,ur_1,ur_2,ud_0,ud_1,ud_2,up_0,up_1,up_2,uq_0,uq_1,uq_2,uy_0,uy_1,uy_2⟩ := cst _ acc
        go_wp2_with fail
        refine hK.out _ _ ?_ (fun hH2 => ?_)
        · (try dsimp only); with_reducible exact cst _ acc
        clear hK K
        try simp only [Act.put,List.setIfInBounds_toArray,List.set_cons_zero,List.set_cons_succ]
        refine wpAnyH_take (i := 2) (oi := { dst := some 103,op := Op.binOp BinOp.eql 3 (Operand.tmp 102) (Operand.const (Value.int IntKind.i64 0)) 3,type := 4,pos := "law.go:102",after := #[{ on := 1,ground := Ground.data }],guard := none }) (v := .bool true) rfl (by kernel_rfl) (by kernel_rfl) (by kernel_rfl) (fun _ _ _ h => h) (Or.inl ⟨by rfl,?_⟩) (by assumption) ?_
        · (intro w hSw; (try dsimp only at hSw); go_simp) <;> (try with_reducible rfl)
        try simp only [Act.put,List.setIfInBounds_toArray,List.set_cons_zero,List.set_cons_succ]
        refine wpAnyH_take (i := 3) (oi := { dst := some 104,op := Op.move (Operand.tmp 103),type := 4,pos := "law.go:102",after := #[{ on := 2,ground := Ground.data },{ on := 1,ground := Ground.chain }],guard := none }) (v := .bool true) rfl (by kernel_rfl) (by kernel_rfl) (by kernel_rfl) (fun _ _ _ h => h) (Or.inl ⟨by rfl,?_⟩) (by assumption) ?_
        · (intro w hSw; (try dsimp only at hSw); go_simp) <;> (try with_reducible rfl)
        try simp only [Act.put,List.setIfInBounds_toArray,List.set_cons_zero,List.set_cons_succ]
        refine wpAnyH_take (i := 4) (oi := { dst := some 105,op := Op.load 28 (Operand.tmp 20),type := 28,pos := "law.go:102",after := #[{ on := 3,ground := Ground.guard }],guard := some (3,true) }) (v := .agg #[.bool bd,.int .u64 xd,.slice pd ld cd]) rfl (by kernel_rfl) (by kernel_rfl) (by kernel_rfl) (fun _ _ _ h => h) (Or.inl ⟨by rfl,?_⟩) (by assumption) ?_
        · (intro w hSw; (try dsimp only at hSw); go_simp) <;> (try with_reducible rfl)
        try simp only [Act.put,List.setIfInBounds_toArray,List.set_cons_zero,List.set_cons_succ]
        refine wpAnyH_ready (rs := [5]) (by kernel_rfl) (by simp) ?_
        refine AllReadyH.cons (o := { dst := some 106,op := Op.call { callee := Callee.value (Operand.func 22),args := #[Operand.tmp 105],argTypes := #[28] },type := 3,pos := "law.go:102",after := #[{ on := 4,ground := Ground.data },{ on := 3,ground := Ground.chain },{ on := 3,ground := Ground.guard }],guard := some (3,true) }) rfl (fun K hK => ?_) AllReadyH.nil
        go_simp
        go_at_call 22
        have q := sign_s _ (rD Y G) _ HD t0 (hd.below acc)
        (with_reducible refine q.mono ?_); clear q
        rintro e t1 ⟨rfl,hb⟩
        (first | replace hb : Below t0.heap.size t0 t1 := hb | replace hb := below_undrew (w := t0) hb)
        replace acc := below_acc acc acc.size hb
        clear hb ur_0 ur_1 ur_2 ud_0 ud_1 ud_2 up_0 up_1 up_2 uq_0 uq_1 uq_2 uy_0 uy_1 uy_2
        obtain ⟨ur_0,ur_1,ur_2,ud_0,ud_1,ud_2,up_0,up_1,up_2,uq_0,uq_1,uq_2,uy_0,uy_1,uy_2⟩ := cst _ acc
        go_wp2_with fail
        refine hK.out _ _ ?_ (fun hH6 => ?_)
        · (try dsimp only); with_reducible exact cst _ acc
        clear hK K
        try simp only [Act.put,List.setIfInBounds_toArray,List.set_cons_zero,List.set_cons_succ]
        refine wpAnyH_take (i := 6) (oi := { dst := some 107,op := Op.binOp BinOp.eql 3 (Operand.tmp 106) (Operand.const (Value.int IntKind.i64 0)) 3,type := 4,pos := "law.go:102",after := #[{ on := 5,ground := Ground.data },{ on := 3,ground := Ground.guard }],guard := some (3,true) }) (v := .bool true) rfl (by kernel_rfl) (by kernel_rfl) (by kernel_rfl) (fun _ _ _ h => h) (Or.inl ⟨by rfl,?_⟩) (by assumption) ?_
        · (intro w hSw; (try dsimp only at hSw); go_simp) <;> (try with_reducible rfl)
        try simp only [Act.put,List.setIfInBounds_toArray,List.set_cons_zero,List.set_cons_succ]
        refine wpAnyH_take (i := 7) (oi := { dst := some 108,op := Op.pick (Operand.tmp 104) (Operand.tmp 107) (Operand.const (Value.bool false)),type := 4,pos := "law.go:102",after := #[{ on := 3,ground := Ground.data },{ on := 6,ground := Ground.data }],guard := none }) (v := .bool true) rfl (by kernel_rfl) (by kernel_rfl) (by kernel_rfl) (fun _ _ _ h => h) (Or.inl ⟨by rfl,?_⟩) (by assumption) ?_
        · (intro w hSw; (try dsimp only at hSw); go_simp) <;> (try with_reducible rfl)
        try simp only [Act.put,List.setIfInBounds_toArray,List.set_cons_zero,List.set_cons_succ]
        refine wpAnyH_take (i := 8) (oi := { dst := some 109,op := Op.move (Operand.tmp 108),type := 4,pos := "law.go:102",after := #[{ on := 7,ground := Ground.data },{ on := 5,ground := Ground.chain }],guard := none }) (v := .bool true) rfl (by kernel_rfl) (by kernel_rfl) (by kernel_rfl) (fun _ _ _ h => h) (Or.inl ⟨by rfl,?_⟩) (by assumption) ?_
        · (intro w hSw; (try dsimp only at hSw); go_simp) <;> (try with_reducible rfl)
        try simp only [Act.put,List.setIfInBounds_toArray,List.set_cons_zero,List.set_cons_succ]
        refine wpAnyH_take (i := 9) (oi := { dst := some 110,op := Op.load 28 (Operand.tmp 16),type := 28,pos := "law.go:102",after := #[{ on := 8,ground := Ground.guard }],guard := some (8,true) }) (v := .agg #[.bool bp,.int .u64 xp,.slice pp lp cp]) rfl (by kernel_rfl) (by kernel_rfl) (by kernel_rfl) (fun _ _ _ h => h) (Or.inl ⟨by rfl,?_⟩) (by assumption) ?_
        · (intro w hSw; (try dsimp only at hSw); go_simp) <;> (try with_reducible rfl)
        try simp only [Act.put,List.setIfInBounds_toArray,List.set_cons_zero,List.set_cons_succ]
        refine wpAnyH_take (i := 10) (oi := { dst := some 111,op := Op.load 28 (Operand.tmp 19),type := 28,pos := "law.go:102",after := #[{ on := 8,ground := Ground.guard }],guard := some (8,true) }) (v := .agg #[.bool bq,.int .u64 xq,.slice pq lq cq]) rfl (by kernel_rfl) (by kernel_rfl) (by kernel_rfl) (fun _ _ _ h => h) (Or.inl ⟨by rfl,?_⟩) (by assumption) ?_
        · (intro w hSw; (try dsimp only at hSw); go_simp) <;> (try with_reducible rfl)
        try simp only [Act.put,List.setIfInBounds_toArray,List.set_cons_zero,List.set_cons_succ]
        refine wpAnyH_ready (rs := [11]) (by kernel_rfl) (by simp) ?_
        refine AllReadyH.cons (o := { dst := some 112,op := Op.call { callee := Callee.value (Operand.func 17),args := #[Operand.tmp 110,Operand.tmp 111],argTypes := #[28,28] },type := 26,pos := "law.go:102",after := #[{ on := 9,ground := Ground.data },{ on := 10,ground := Ground.data },{ on := 8,ground := Ground.chain },{ on := 8,ground := Ground.guard }],guard := some (8,true) }) rfl (fun K hK => ?_) AllReadyH.nil
        go_simp
        go_at_call 17
        have q := GP t1 (hT.below acc) (hp.below acc) (hq.below acc)
        (with_reducible refine q.mono ?_); clear q
        rintro e t2 ⟨rfl,hb⟩
        (first | replace hb : Below t1.heap.size t1 t2 := hb | replace hb := below_undrew (w := t1) hb)
        replace acc := below_acc acc acc.size hb
        clear hb ur_0 ur_1 ur_2 ud_0 ud_1 ud_2 up_0 up_1 up_2 uq_0 uq_1 uq_2 uy_0 uy_1 uy_2
        obtain ⟨ur_0,ur_1,ur_2,ud_0,ud_1,ud_2,up_0,up_1,up_2,uq_0,uq_1,uq_2,uy_0,uy_1,uy_2⟩ := cst _ acc
        go_wp2_with fail
        refine hK.out _ _ ?_ (fun hH12 => ?_)
        · (try dsimp only); with_reducible exact cst _ acc
        clear hK K
        try simp only [Act.put,List.setIfInBounds_toArray,List.set_cons_zero,List.set_cons_succ]
        refine wpAnyH_ready (rs := [12]) (by kernel_rfl) (by simp) ?_
        refine AllReadyH.cons (o := { dst := some 113,op := Op.call { callee := Callee.value (Operand.func 27),args := #[Operand.tmp 112],argTypes := #[26] },type := 9,pos := "law.go:102",after := #[{ on := 11,ground := Ground.data },{ on := 11,ground := Ground.chain },{ on := 8,ground := Ground.guard }],guard := some (8,true) }) rfl (fun K hK => ?_) AllReadyH.nil
        go_simp
        go_at_call 27
        have q := text_1 t2
        (with_reducible refine q.mono ?_); clear q
        rintro e t3 ⟨rfl,hb⟩
        (first | replace hb : Below t2.heap.size t2 t3 := hb | replace hb := below_undrew (w := t2) hb)
        replace acc := below_acc acc acc.size hb
        clear hb ur_0 ur_1 ur_2 ud_0 ud_1 ud_2 up_0 up_1 up_2 uq_0 uq_1 uq_2 uy_0 uy_1 uy_2
        obtain ⟨ur_0,ur_1,ur_2,ud_0,ud_1,ud_2,up_0,up_1,up_2,uq_0,uq_1,uq_2,uy_0,uy_1,uy_2⟩ := cst _ acc
        go_wp2_with fail
        refine hK.out _ _ ?_ (fun hH13 => ?_)
        · (try dsimp only); with_reducible exact cst _ acc
        clear hK K
        try simp only [Act.put,List.setIfInBounds_toArray,List.set_cons_zero,List.set_cons_succ]
        refine wpAnyH_take (i := 13) (oi := { dst := some 114,op := Op.binOp BinOp.eql 9 (Operand.tmp 113) (Operand.const (Value.string { data := #[49] })) 9,type := 4,pos := "law.go:102",after := #[{ on := 12,ground := Ground.data },{ on := 8,ground := Ground.guard }],guard := some (8,true) }) (v := .bool true) rfl (by kernel_rfl) (by kernel_rfl) (by kernel_rfl) (fun _ _ _ h => h) (Or.inl ⟨by rfl,?_⟩) (by assumption) ?_
        · (intro w hSw; (try dsimp only at hSw); go_simp) <;> (try with_reducible rfl)
        try simp only [Act.put,List.setIfInBounds_toArray,List.set_cons_zero,List.set_cons_succ]
        refine wpAnyH_take (i := 14) (oi := { dst := some 115,op := Op.pick (Operand.tmp 109) (Operand.tmp 114) (Operand.const (Value.bool false)),type := 4,pos := "law.go:102",after := #[{ on := 8,ground := Ground.data },{ on := 13,ground := Ground.data }],guard := none }) (v := .bool true) rfl (by kernel_rfl) (by kernel_rfl) (by kernel_rfl) (fun _ _ _ h => h) (Or.inl ⟨by rfl,?_⟩) (by assumption) ?_
        · (intro w hSw; (try dsimp only at hSw); go_simp) <;> (try with_reducible rfl)
        try simp only [Act.put,List.setIfInBounds_toArray,List.set_cons_zero,List.set_cons_succ]
        refine wpAnyH_take (i := 15) (oi := { dst := some 116,op := Op.move (Operand.tmp 115),type := 4,pos := "law.go:102",after := #[{ on := 14,ground := Ground.data },{ on := 12,ground := Ground.chain }],guard := none }) (v := .bool true) rfl (by kernel_rfl) (by kernel_rfl) (by kernel_rfl) (fun _ _ _ h => h) (Or.inl ⟨by rfl,?_⟩) (by assumption) ?_
        · (intro w hSw; (try dsimp only at hSw); go_simp) <;> (try with_reducible rfl)
        try simp only [Act.put,List.setIfInBounds_toArray,List.set_cons_zero,List.set_cons_succ]
        refine wpAnyH_take (i := 16) (oi := { dst := some 117,op := Op.load 28 (Operand.tmp 10),type := 28,pos := "law.go:102",after := #[{ on := 15,ground := Ground.guard }],guard := some (15,true) }) (v := .agg #[.bool by0,.int .u64 xy,.slice py ly cy]) rfl (by kernel_rfl) (by kernel_rfl) (by kernel_rfl) (fun _ _ _ h => h) (Or.inl ⟨by rfl,?_⟩) (by assumption) ?_
        · (intro w hSw; (try dsimp only at hSw); go_simp) <;> (try with_reducible rfl)
        try simp only [Act.put,List.setIfInBounds_toArray,List.set_cons_zero,List.set_cons_succ]
        refine wpAnyH_ready (rs := [17]) (by kernel_rfl) (by simp) ?_
        refine AllReadyH.cons (o := { dst := some 118,op := Op.call { callee := Callee.value (Operand.func 22),args := #[Operand.tmp 117],argTypes := #[28] },type := 3,pos := "law.go:102",after := #[{ on := 16,ground := Ground.data },{ on := 15,ground := Ground.chain },{ on := 15,ground := Ground.guard }],guard := some (15,true) }) rfl (fun K hK => ?_) AllReadyH.nil
        go_simp
        go_at_call 22
        have q := sign_s _ Y _ HY t3 (hy.below acc)
        (with_reducible refine q.mono ?_); clear q
        rintro e t4 ⟨rfl,hb⟩
        (first | replace hb : Below t3.heap.size t3 t4 := hb | replace hb := below_undrew (w := t3) hb)
        replace acc := below_acc acc acc.size hb
        clear hb ur_0 ur_1 ur_2 ud_0 ud_1 ud_2 up_0 up_1 up_2 uq_0 uq_1 uq_2 uy_0 uy_1 uy_2
        obtain ⟨ur_0,ur_1,ur_2,ud_0,ud_1,ud_2,up_0,up_1,up_2,uq_0,uq_1,uq_2,uy_0,uy_1,uy_2⟩ := cst _ acc
        go_wp2_with fail
        refine hK.out _ _ ?_ (fun hH18 => ?_)
        · (try dsimp only); with_reducible exact cst _ acc
        clear hK K
        try simp only [Act.put,List.setIfInBounds_toArray,List.set_cons_zero,List.set_cons_succ]
        refine wpAnyH_take (i := 18) (oi := { dst := some 119,op := Op.binOp BinOp.eql 3 (Operand.tmp 118) (Operand.const (Value.int IntKind.i64 0)) 3,type := 4,pos := "law.go:102",after := #[{ on := 17,ground := Ground.data },{ on := 15,ground := Ground.guard }],guard := some (15,true) }) (v := .bool true) rfl (by kernel_rfl) (by kernel_rfl) (by kernel_rfl) (fun _ _ _ h => h) (Or.inl ⟨by rfl,?_⟩) (by assumption) ?_
        · (intro w hSw; (try dsimp only at hSw); go_simp) <;> (try with_reducible rfl)
        try simp only [Act.put,List.setIfInBounds_toArray,List.set_cons_zero,List.set_cons_succ]
        refine wpAnyH_take (i := 19) (oi := { dst := some 120,op := Op.move (Operand.tmp 119),type := 4,pos := "law.go:102",after := #[{ on := 18,ground := Ground.data },{ on := 17,ground := Ground.chain },{ on := 15,ground := Ground.guard }],guard := some (15,true) }) (v := .bool true) rfl (by kernel_rfl) (by kernel_rfl) (by kernel_rfl) (fun _ _ _ h => h) (Or.inl ⟨by rfl,?_⟩) (by assumption) ?_
        · (intro w hSw; (try dsimp only at hSw); go_simp) <;> (try with_reducible rfl)
        try simp only [Act.put,List.setIfInBounds_toArray,List.set_cons_zero,List.set_cons_succ]
        refine wpAnyH_take (i := 20) (oi := { dst := some 121,op := Op.load 28 (Operand.tmp 14),type := 28,pos := "law.go:102",after := #[{ on := 19,ground := Ground.guard }],guard := some (19,false) }) (v := undef) rfl (by kernel_rfl) (by kernel_rfl) (by kernel_rfl) (fun _ _ _ h => h) (Or.inr ⟨by rfl,rfl⟩) (by assumption) ?_
        try simp only [Act.put,List.setIfInBounds_toArray,List.set_cons_zero,List.set_cons_succ]
        refine wpAnyH_ready (rs := [21]) (by kernel_rfl) (by simp) ?_
        refine AllReadyH.cons (o := { dst := some 122,op := Op.call { callee := Callee.value (Operand.func 22),args := #[Operand.tmp 121],argTypes := #[28] },type := 3,pos := "law.go:102",after := #[{ on := 20,ground := Ground.data },{ on := 19,ground := Ground.chain },{ on := 19,ground := Ground.guard }],guard := some (19,false) }) rfl (fun K hK => ?_) AllReadyH.nil
        (first | rw [if_neg (fun h => Bool.noConfusion (show false = true from h))] | (go_simp; try rw [if_neg (fun h => by cases h)]))
        refine hK.out _ _ (by assumption) (fun hH22 => ?_)
        clear hK K
        try simp only [Act.put,List.setIfInBounds_toArray,List.set_cons_zero,List.set_cons_succ]
        refine wpAnyH_take (i := 22) (oi := { dst := some 123,op := Op.binOp BinOp.geq 3 (Operand.tmp 122) (Operand.const (Value.int IntKind.i64 0)) 3,type := 4,pos := "law.go:102",after := #[{ on := 21,ground := Ground.data },{ on := 19,ground := Ground.guard }],guard := some (19,false) }) (v := undef) rfl (by kernel_rfl) (by kernel_rfl) (by kernel_rfl) (fun _ _ _ h => h) (Or.inr ⟨by rfl,rfl⟩) (by assumption) ?_
        try simp only [Act.put,List.setIfInBounds_toArray,List.set_cons_zero,List.set_cons_succ]
        refine wpAnyH_take (i := 23) (oi := { dst := some 124,op := Op.move (Operand.tmp 123),type := 4,pos := "law.go:102",after := #[{ on := 22,ground := Ground.data },{ on := 21,ground := Ground.chain },{ on := 19,ground := Ground.guard }],guard := some (19,false) }) (v := undef) rfl (by kernel_rfl) (by kernel_rfl) (by kernel_rfl) (fun _ _ _ h => h) (Or.inr ⟨by rfl,rfl⟩) (by assumption) ?_
        try simp only [Act.put,List.setIfInBounds_toArray,List.set_cons_zero,List.set_cons_succ]
        refine wpAnyH_take (i := 24) (oi := { dst := some 125,op := Op.load 28 (Operand.tmp 14),type := 28,pos := "law.go:102",after := #[{ on := 23,ground := Ground.guard }],guard := some (23,true) }) (v := undef) rfl (by kernel_rfl) (by kernel_rfl) (by kernel_rfl) (fun _ _ _ h => h) (Or.inr ⟨by rfl,rfl⟩) (by assumption) ?_
        try simp only [Act.put,List.setIfInBounds_toArray,List.set_cons_zero,List.set_cons_succ]
        refine wpAnyH_take (i := 25) (oi := { dst := some 126,op := Op.load 28 (Operand.tmp 19),type := 28,pos := "law.go:102",after := #[{ on := 23,ground := Ground.guard }],guard := some (23,true) }) (v := undef) rfl (by kernel_rfl) (by kernel_rfl) (by kernel_rfl) (fun _ _ _ h => h) (Or.inr ⟨by rfl,rfl⟩) (by assumption) ?_
        try simp only [Act.put,List.setIfInBounds_toArray,List.set_cons_zero,List.set_cons_succ]
        refine wpAnyH_ready (rs := [26]) (by kernel_rfl) (by simp) ?_
        refine AllReadyH.cons (o := { dst := some 127,op := Op.call { callee := Callee.value (Operand.func 25),args := #[Operand.tmp 126],argTypes := #[28] },type := 26,pos := "law.go:102",after := #[{ on := 25,ground := Ground.data },{ on := 23,ground := Ground.chain },{ on := 23,ground := Ground.guard }],guard := some (23,true) }) rfl (fun K hK => ?_) AllReadyH.nil
        (first | rw [if_neg (fun h => Bool.noConfusion (show false = true from h))] | (go_simp; try rw [if_neg (fun h => by cases h)]))
        refine hK.out _ _ (by assumption) (fun hH27 => ?_)
        clear hK K
        try simp only [Act.put,List.setIfInBounds_toArray,List.set_cons_zero,List.set_cons_succ]
        refine wpAnyH_ready (rs := [27]) (by kernel_rfl) (by simp) ?_
        refine AllReadyH.cons (o := { dst := some 128,op := Op.call { callee := Callee.value (Operand.func 23),args := #[Operand.const (Value.bool false),Operand.tmp 127],argTypes := #[4,26] },type := 28,pos := "law.go:102",after := #[{ on := 26,ground := Ground.data },{ on := 26,ground := Ground.chain },{ on := 23,ground := Ground.guard }],guard := some (23,true) }) rfl (fun K hK => ?_) AllReadyH.nil
        (first | rw [if_neg (fun h => Bool.noConfusion (show false = true from h))] | (go_simp; try rw [if_neg (fun h => by cases h)]))
        refine hK.out _ _ (by assumption) (fun hH28 => ?_)
        clear hK K
        try simp only [Act.put,List.setIfInBounds_toArray,List.set_cons_zero,List.set_cons_succ]
        refine wpAnyH_ready (rs := [28]) (by kernel_rfl) (by simp) ?_
        refine AllReadyH.cons (o := { dst := some 129,op := Op.call { callee := Callee.value (Operand.func 21),args := #[Operand.tmp 125,Operand.tmp 128],argTypes := #[28,28] },type := 3,pos := "law.go:102",after := #[{ on := 24,ground := Ground.data },{ on := 27,ground := Ground.data },{ on := 27,ground := Ground.chain },{ on := 23,ground := Ground.guard }],guard := some (23,true) }) rfl (fun K hK => ?_) AllReadyH.nil
        (first | rw [if_neg (fun h => Bool.noConfusion (show false = true from h))] | (go_simp; try rw [if_neg (fun h => by cases h)]))
        refine hK.out _ _ (by assumption) (fun hH29 => ?_)
        clear hK K
        try simp only [Act.put,List.setIfInBounds_toArray,List.set_cons_zero,List.set_cons_succ]
        refine wpAnyH_take (i := 29) (oi := { dst := some 130,op := Op.binOp BinOp.lss 3 (Operand.tmp 129) (Operand.const (Value.int IntKind.i64 0)) 3,type := 4,pos := "law.go:102",after := #[{ on := 28,ground := Ground.data },{ on := 23,ground := Ground.guard }],guard := some (23,true) }) (v := undef) rfl (by kernel_rfl) (by kernel_rfl) (by kernel_rfl) (fun _ _ _ h => h) (Or.inr ⟨by rfl,rfl⟩) (by assumption) ?_
        try simp only [Act.put,List.setIfInBounds_toArray,List.set_cons_zero,List.set_cons_succ]
        refine wpAnyH_take (i := 30) (oi := { dst := some 131,op := Op.pick (Operand.tmp 124) (Operand.tmp 130) (Operand.const (Value.bool false)),type := 4,pos := "law.go:102",after := #[{ on := 23,ground := Ground.data },{ on := 29,ground := Ground.data },{ on := 19,ground := Ground.guard }],guard := some (19,false) }) (v := undef) rfl (by kernel_rfl) (by kernel_rfl) (by kernel_rfl) (fun _ _ _ h => h) (Or.inr ⟨by rfl,rfl⟩) (by assumption) ?_
        try simp only [Act.put,List.setIfInBounds_toArray,List.set_cons_zero,List.set_cons_succ]
        refine wpAnyH_take (i := 31) (oi := { dst := some 132,op := Op.pick (Operand.tmp 120) (Operand.const (Value.bool true)) (Operand.tmp 131),type := 4,pos := "law.go:102",after := #[{ on := 19,ground := Ground.data },{ on := 30,ground := Ground.data },{ on := 15,ground := Ground.guard }],guard := some (15,true) }) (v := .bool true) rfl (by kernel_rfl) (by kernel_rfl) (by kernel_rfl) (fun _ _ _ h => h) (Or.inl ⟨by rfl,?_⟩) (by assumption) ?_
        · (intro w hSw; (try dsimp only at hSw); go_simp) <;> (try with_reducible rfl)
        try simp only [Act.put,List.setIfInBounds_toArray,List.set_cons_zero,List.set_cons_succ]
        refine wpAnyH_take (i := 32) (oi := { dst := some 133,op := Op.pick (Operand.tmp 116) (Operand.tmp 132) (Operand.const (Value.bool false)),type := 4,pos := "law.go:102",after := #[{ on := 15,ground := Ground.data },{ on := 31,ground := Ground.data }],guard := none }) (v := .bool true) rfl (by kernel_rfl) (by kernel_rfl) (by kernel_rfl) (fun _ _ _ h => h) (Or.inl ⟨by rfl,?_⟩) (by assumption) ?_
        · (intro w hSw; (try dsimp only at hSw); go_simp) <;> (try with_reducible rfl)
        try simp only [Act.put,List.setIfInBounds_toArray,List.set_cons_zero,List.set_cons_succ]
        refine wpAnyH_take (i := 33) (oi := { dst := some 8,op := Op.assign (Operand.tmp 133),type := 4,pos := "law.go:102",after := #[{ on := 32,ground := Ground.data },{ on := 28,ground := Ground.chain },{ on := 0,ground := Ground.phase },{ on := 1,ground := Ground.phase },{ on := 2,ground := Ground.phase },{ on := 3,ground := Ground.phase },{ on := 4,ground := Ground.phase },{ on := 5,ground := Ground.phase },{ on := 6,ground := Ground.phase },{ on := 7,ground := Ground.phase },{ on := 8,ground := Ground.phase },{ on := 9,ground := Ground.phase },{ on := 10,ground := Ground.phase },{ on := 11,ground := Ground.phase },{ on := 12,ground := Ground.phase },{ on := 13,ground := Ground.phase },{ on := 14,ground := Ground.phase },{ on := 15,ground := Ground.phase },{ on := 16,ground := Ground.phase },{ on := 17,ground := Ground.phase },{ on := 18,ground := Ground.phase },{ on := 19,ground := Ground.phase },{ on := 20,ground := Ground.phase },{ on := 21,ground := Ground.phase },{ on := 22,ground := Ground.phase },{ on := 23,ground := Ground.phase },{ on := 24,ground := Ground.phase },{ on := 25,ground := Ground.phase },{ on := 26,ground := Ground.phase },{ on := 27,ground := Ground.phase },{ on := 28,ground := Ground.phase },{ on := 29,ground := Ground.phase },{ on := 30,ground := Ground.phase },{ on := 31,ground := Ground.phase },{ on := 32,ground := Ground.phase }],guard := none }) (v := .bool true) rfl (by kernel_rfl) (by kernel_rfl) (by kernel_rfl) (fun _ _ _ h => h) (Or.inl ⟨by rfl,?_⟩) (by assumption) ?_
        · (intro w hSw; (try dsimp only at hSw); go_simp) <;> (try with_reducible rfl)
        try simp only [Act.put,List.setIfInBounds_toArray,List.set_cons_zero,List.set_cons_succ]
        refine wpAnyH_done (by kernel_rfl) ?_ _
        replace hT := hT.below acc
        replace hx := hx.below acc
        replace hy := hy.below acc
        replace ux := ux.below acc ux.lt
        replace uy := uy.below acc uy.lt
        replace hg := hg.below acc
        replace hu := hu.below acc
        replace hv := hv.below acc
        replace ug := ug.below acc ug.lt
        replace uu := uu.below acc uu.lt
        replace uv := uv.below acc uv.lt
        replace hp := hp.below acc
        replace hr := hr.below acc
        replace up := up.below acc up.lt
        replace ur := ur.below acc ur.lt
        replace hq := hq.below acc
        replace hd := hd.below acc
        replace uq := uq.below acc uq.lt
        replace ud := ud.below acc ud.lt
        replace hBw := hBw.trans (acc.mono hBw.size)
        clear acc ur_0 ur_1 ur_2 ud_0 ud_1 ud_2 up_0 up_1 up_2 uq_0 uq_1 uq_2 uy_0 uy_1 uy_2 cst
        go_wp2
        go_ret
        exact ⟨rfl,hBw⟩
      · obtain ⟨hU0,hUG⟩ := hA4 hY
        obtain ⟨sY,HY,hYs⟩ : ∃ s,Hid (sgnI Y = s) ∧ (s == 0) = false := ⟨_,Lib.hid rfl,by rcases sgnI_ne hY with h | h <;> rw [h] <;> rfl⟩
        obtain ⟨sU,HU,hUs⟩ : ∃ s,Hid (sgnI U = s) ∧ decide (0 ≤ s) = true := ⟨_,Lib.hid rfl,by unfold sgnI; rw [if_neg (by omega)]; split <;> rfl⟩
        have EU : U < absI (qD Y G) := by
          have h1 : absI Y = absI (qD Y G) * G := by rw [← aG,← absI_mul,aG,g3]
          rw [h1] at hUG
          exact Int.lt_of_mul_lt_mul_right hUG (by omega)
        have zur := ur.lt
        have zud := ud.lt
        have zup := up.lt
        have zuq := uq.lt
        have zuy := uy.lt
        have zuu := uu.lt
        have acc := Below.refl M4.heap.size M4
        have css : ∀ w',Below M4.heap.size M4 w' → w'.cell? ⟨aM3 + 1,0,none⟩ = some (.bool br) ∧ w'.cell? ⟨aM3 + 1,1,none⟩ = some (.int .u64 xr) ∧ w'.cell? ⟨aM3 + 1,2,none⟩ = some (.slice pr lr cr) ∧ w'.cell? ⟨aM4 + 1,0,none⟩ = some (.bool bd) ∧ w'.cell? ⟨aM4 + 1,1,none⟩ = some (.int .u64 xd) ∧ w'.cell? ⟨aM4 + 1,2,none⟩ = some (.slice pd ld cd) ∧ w'.cell? ⟨aM3,0,none⟩ = some (.bool bp) ∧ w'.cell? ⟨aM3,1,none⟩ = some (.int .u64 xp) ∧ w'.cell? ⟨aM3,2,none⟩ = some (.slice pp lp cp) ∧ w'.cell? ⟨aM4,0,none⟩ = some (.bool bq) ∧ w'.cell? ⟨aM4,1,none⟩ = some (.int .u64 xq) ∧ w'.cell? ⟨aM4,2,none⟩ = some (.slice pq lq cq) ∧ w'.cell? ⟨aM1 + 1,0,none⟩ = some (.bool by0) ∧ w'.cell? ⟨aM1 + 1,1,none⟩ = some (.int .u64 xy) ∧ w'.cell? ⟨aM1 + 1,2,none⟩ = some (.slice py ly cy) ∧ w'.cell? ⟨aM2 + 1,0,none⟩ = some (.bool bu) ∧ w'.cell? ⟨aM2 + 1,1,none⟩ = some (.int .u64 xu) ∧ w'.cell? ⟨aM2 + 1,2,none⟩ = some (.slice pu lu cu) := fun w' acc => ⟨(ur.below acc zur).cell0,(ur.below acc zur).cell1,(ur.below acc zur).cell2,(ud.below acc zud).cell0,(ud.below acc zud).cell1,(ud.below acc zud).cell2,(up.below acc zup).cell0,(up.below acc zup).cell1,(up.below acc zup).cell2,(uq.below acc zuq).cell0,(uq.below acc zuq).cell1,(uq.below acc zuq).cell2,(uy.below acc zuy).cell0,(uy.below acc zuy).cell1,(uy.below acc zuy).cell2,(uu.below acc zuu).cell0,(uu.below acc zuu).cell1,(uu.below acc zuu).cell2⟩
        obtain ⟨ur_0,ur_1,ur_2,ud_0,ud_1,ud_2,up_0,up_1,up_2,uq_0,uq_1,uq_2,uy_0,uy_1,uy_2,uu_0,uu_1,uu_2⟩ := css _ acc
        go_region_held3 (fun w' => w'.cell? ⟨aM3 + 1,0,none⟩ = some (.bool br) ∧ w'.cell? ⟨aM3 + 1,1,none⟩ = some (.int .u64 xr) ∧ w'.cell? ⟨aM3 + 1,2,none⟩ = some (.slice pr lr cr) ∧ w'.cell? ⟨aM4 + 1,0,none⟩ = some (.bool bd) ∧ w'.cell? ⟨aM4 + 1,1,none⟩ = some (.int .u64 xd) ∧ w'.cell? ⟨aM4 + 1,2,none⟩ = some (.slice pd ld cd) ∧ w'.cell? ⟨aM3,0,none⟩ = some (.bool bp) ∧ w'.cell? ⟨aM3,1,none⟩ = some (.int .u64 xp) ∧ w'.cell? ⟨aM3,2,none⟩ = some (.slice pp lp cp) ∧ w'.cell? ⟨aM4,0,none⟩ = some (.bool bq) ∧ w'.cell? ⟨aM4,1,none⟩ = some (.int .u64 xq) ∧ w'.cell? ⟨aM4,2,none⟩ = some (.slice pq lq cq) ∧ w'.cell? ⟨aM1 + 1,0,none⟩ = some (.bool by0) ∧ w'.cell? ⟨aM1 + 1,1,none⟩ = some (.int .u64 xy) ∧ w'.cell? ⟨aM1 + 1,2,none⟩ = some (.slice py ly cy) ∧ w'.cell? ⟨aM2 + 1,0,none⟩ = some (.bool bu) ∧ w'.cell? ⟨aM2 + 1,1,none⟩ = some (.int .u64 xu) ∧ w'.cell? ⟨aM2 + 1,2,none⟩ = some (.slice pu lu cu))
          (first | with_reducible exact css _ acc | with_reducible exact css _ acc.drew)
          (first
            | (go_at_call 22; (first | (have q := sign_s _ (rD X G) _ HR M4.drew (hr.below acc.drew); (with_reducible refine q.mono ?_); clear q) | (have q := sign_s _ (rD X G) _ HR M4 (hr.below acc); (with_reducible refine q.mono ?_); clear q)); rintro e s0 ⟨rfl,hb⟩; (first | replace hb : Below M4.heap.size M4 s0 := hb | replace hb := below_undrew (w := M4) hb); replace acc := below_acc acc acc.size hb; clear hb ur_0 ur_1 ur_2 ud_0 ud_1 ud_2 up_0 up_1 up_2 uq_0 uq_1 uq_2 uy_0 uy_1 uy_2 uu_0 uu_1 uu_2; obtain ⟨ur_0,ur_1,ur_2,ud_0,ud_1,ud_2,up_0,up_1,up_2,uq_0,uq_1,uq_2,uy_0,uy_1,uy_2,uu_0,uu_1,uu_2⟩ := css _ acc)
            | (go_at_call 22; (with_reducible refine (sign_s _ (rD Y G) _ HD s0 (hd.below acc)).mono ?_); rintro e s1 ⟨rfl,hb⟩; replace acc := nx acc hb; clear hb ur_0 ur_1 ur_2 ud_0 ud_1 ud_2 up_0 up_1 up_2 uq_0 uq_1 uq_2 uy_0 uy_1 uy_2 uu_0 uu_1 uu_2; obtain ⟨ur_0,ur_1,ur_2,ud_0,ud_1,ud_2,up_0,up_1,up_2,uq_0,uq_1,uq_2,uy_0,uy_1,uy_2,uu_0,uu_1,uu_2⟩ := css _ acc)
            | (go_at_call 17; (with_reducible refine (GP s1 (hT.below acc) (hp.below acc) (hq.below acc)).mono ?_); rintro e s2 ⟨rfl,hb⟩; replace acc := nx acc hb; clear hb ur_0 ur_1 ur_2 ud_0 ud_1 ud_2 up_0 up_1 up_2 uq_0 uq_1 uq_2 uy_0 uy_1 uy_2 uu_0 uu_1 uu_2; obtain ⟨ur_0,ur_1,ur_2,ud_0,ud_1,ud_2,up_0,up_1,up_2,uq_0,uq_1,uq_2,uy_0,uy_1,uy_2,uu_0,uu_1,uu_2⟩ := css _ acc)
            | (go_at_call 27; (with_reducible refine (text_1 s2).mono ?_); rintro e s3 ⟨rfl,hb⟩; replace acc := nx acc hb; clear hb ur_0 ur_1 ur_2 ud_0 ud_1 ud_2 up_0 up_1 up_2 uq_0 uq_1 uq_2 uy_0 uy_1 uy_2 uu_0 uu_1 uu_2; obtain ⟨ur_0,ur_1,ur_2,ud_0,ud_1,ud_2,up_0,up_1,up_2,uq_0,uq_1,uq_2,uy_0,uy_1,uy_2,uu_0,uu_1,uu_2⟩ := css _ acc)
            | (go_at_call 22; (with_reducible refine (sign_s _ Y _ HY s3 (hy.below acc)).mono ?_); rintro e s4 ⟨rfl,hb⟩; replace acc := nx acc hb; clear hb ur_0 ur_1 ur_2 ud_0 ud_1 ud_2 up_0 up_1 up_2 uq_0 uq_1 uq_2 uy_0 uy_1 uy_2 uu_0 uu_1 uu_2; obtain ⟨ur_0,ur_1,ur_2,ud_0,ud_1,ud_2,up_0,up_1,up_2,uq_0,uq_1,uq_2,uy_0,uy_1,uy_2,uu_0,uu_1,uu_2⟩ := css _ acc)
            | (go_at_call 22; (with_reducible refine (sign_s _ U _ HU s4 (hu.below acc)).mono ?_); rintro e s5 ⟨rfl,hb⟩; replace acc := nx acc hb; clear hb ur_0 ur_1 ur_2 ud_0 ud_1 ud_2 up_0 up_1 up_2 uq_0 uq_1 uq_2 uy_0 uy_1 uy_2 uu_0 uu_1 uu_2; obtain ⟨ur_0,ur_1,ur_2,ud_0,ud_1,ud_2,up_0,up_1,up_2,uq_0,uq_1,uq_2,uy_0,uy_1,uy_2,uu_0,uu_1,uu_2⟩ := css _ acc)
            | (go_at_call 25; (with_reducible refine (abs_int _ (qD Y G) s5 (hq.below acc)).mono ?_); rintro e s6 ⟨vk4,rfl,k4,hb⟩; obtain ⟨xk4,pk4,lk4,ck4,rfl⟩ := k4.shape; replace acc := nx acc hb; clear hb ur_0 ur_1 ur_2 ud_0 ud_1 ud_2 up_0 up_1 up_2 uq_0 uq_1 uq_2 uy_0 uy_1 uy_2 uu_0 uu_1 uu_2; obtain ⟨ur_0,ur_1,ur_2,ud_0,ud_1,ud_2,up_0,up_1,up_2,uq_0,uq_1,uq_2,uy_0,uy_1,uy_2,uu_0,uu_1,uu_2⟩ := css _ acc)
            | (go_at_call 23; (with_reducible refine (from_f _ (absI (qD Y G)) s6 k4).mono ?_); rintro e s7 ⟨vm5,rfl,m5,hb⟩; obtain ⟨bm5,xm5,pm5,lm5,cm5,rfl⟩ := m5.shape; replace acc := nx acc hb; clear hb k4 ur_0 ur_1 ur_2 ud_0 ud_1 ud_2 up_0 up_1 up_2 uq_0 uq_1 uq_2 uy_0 uy_1 uy_2 uu_0 uu_1 uu_2; obtain ⟨ur_0,ur_1,ur_2,ud_0,ud_1,ud_2,up_0,up_1,up_2,uq_0,uq_1,uq_2,uy_0,uy_1,uy_2,uu_0,uu_1,uu_2⟩ := css _ acc)
            | (go_at_call 21; (with_reducible refine (wcmp_less _ _ U (absI (qD Y G)) s7 (hu.below acc) m5 EU).mono ?_); rintro e s8 ⟨rfl,hb⟩; replace acc := nx acc hb; clear hb m5 ur_0 ur_1 ur_2 ud_0 ud_1 ud_2 up_0 up_1 up_2 uq_0 uq_1 uq_2 uy_0 uy_1 uy_2 uu_0 uu_1 uu_2; obtain ⟨ur_0,ur_1,ur_2,ud_0,ud_1,ud_2,up_0,up_1,up_2,uq_0,uq_1,uq_2,uy_0,uy_1,uy_2,uu_0,uu_1,uu_2⟩ := css _ acc))
        all_goals
          replace hT := hT.below acc
          replace hx := hx.below acc
          replace hy := hy.below acc
          replace ux := ux.below acc ux.lt
          replace uy := uy.below acc uy.lt
          replace hg := hg.below acc
          replace hu := hu.below acc
          replace hv := hv.below acc
          replace ug := ug.below acc ug.lt
          replace uu := uu.below acc uu.lt
          replace uv := uv.below acc uv.lt
          replace hp := hp.below acc
          replace hr := hr.below acc
          replace up := up.below acc up.lt
          replace ur := ur.below acc ur.lt
          replace hq := hq.below acc
          replace hd := hd.below acc
          replace uq := uq.below acc uq.lt
          replace ud := ud.below acc ud.lt
          replace hBw := hBw.trans (acc.mono hBw.size)
          clear acc ur_0 ur_1 ur_2 ud_0 ud_1 ud_2 up_0 up_1 up_2 uq_0 uq_1 uq_2 uy_0 uy_1 uy_2 uu_0 uu_1 uu_2 css
          go_wp2
          go_ret
          exact ⟨rfl,hBw⟩
end Go.Proofs.YtgccgacpifebbaaGreatDoor
