/- WholeSums,walked. (gen_wsums.py) -/
import Derived.Test.YtlkblgpekbeljaaGreatDoorWhoRef
import Derived.Test.YtlkblgpekbeljaaGreatDoorWhoY
namespace Go.Proofs.YtlkblgpekbeljaaGreatDoor
open Go.RowKit
set_option linter.unusedVariables false

theorem BArg.lenS {w : World} {v : Value} (h : BArg w v) : ∀ p l k,v = .slice p l k → l ≤ 9223372036854775807 := by
  rintro p l k rfl
  rcases h with h | ⟨a,cap,h,hc⟩ | ⟨b,off,len,cap,zs,h,h1,h2,h3,h4,h5,h6,hc⟩
  · cases h; exact Nat.zero_le _
  · cases h; exact Nat.zero_le _
  · cases h; exact h4
theorem sign_Rs (v : Value) (a s : Int) (hs : Hid (sgnI a = s)) (w : World) (h : IsR w v a) : Calls Tryz.prog 33 #[v] w fun e w' => e = .returned (.int .i64 s) ∧ Below w.heap.size w w' := by
  rw [← hs.out]
  exact sign_R v a w h
theorem wcmp_s (va vb : Value) (a b s : Int) (hs : Hid (cmpI a b = s)) (w : World) (ha : IsInt w va a) (hb : IsInt w vb b) : Calls Tryz.prog 30 #[va,vb] w fun e w' => e = .returned (.int .i64 s) ∧ Below w.heap.size w w' := by
  rw [← hs.out]
  exact wcmp_int va vb a b w ha hb
theorem cmp_Rs (u v : Value) (a b s : Int) (hs : Hid (cmpI a b = s)) (w : World) (hu : IsR w u a) (hv : IsR w v b) (haK : absI a < lpw 40) (hbK : absI b < lpw 40) : Calls Tryz.prog 31 #[u,v] w fun e w' => e = .returned (.int .i64 s) ∧ Below w.heap.size w w' := by
  rw [← hs.out]
  exact cmp_R 40 (by decide) u v a b w hu hv haK hbK
set_option maxRecDepth 100000 in
set_option maxHeartbeats 8000000 in
theorem wholeSums_walk (a b : Value) (neg not : Bool) (w : World) (ha : BArg w a) (hb0 : BArg w b) : Calls Tryz.prog 4 #[a,b,.bool neg,.bool not] w fun e w' => e = .returned (.bool true) ∧ Below w.heap.size w w' := by
  have hBw := Below.refl w.heap.size w
  have na := ha.lenS
  have nb := hb0.lenS
  go_enter Tryz.func4,Tryz.ntmps4
  go_wp2_with fail
  refine (two2_any _ _ a b neg not w ha hb0 na nb).mono ?_
  rintro e v1 ⟨_,_,_,_,X,Y,rfl,hx,hy,hs,ht,BX,BY,hb⟩
  obtain ⟨bx,xx,px,lx,cx,rfl⟩ := hx.shape
  obtain ⟨by0,xy,py,ly,cy,rfl⟩ := hy.shape
  obtain ⟨bs,ps,ls,cs,rfl⟩ := hs.shape
  obtain ⟨bt,pt,lt,ct,rfl⟩ := ht.shape
  clear ha hb0 na nb
  replace hBw := hBw.trans (hb.mono hBw.size)
  clear hb
  have hb : Below v1.heap.size v1 ((((v1.alloc (.cells #[.bool bx,.int .u64 xx,.slice px lx cx] 27)).alloc (.cells #[.bool by0,.int .u64 xy,.slice py ly cy] 27)).alloc (.cells #[.bool bs,.slice ps ls cs] 49)).alloc (.cells #[.bool bt,.slice pt lt ct] 49)) := by go_grown
  have ux := ((((Row3.new v1 (.bool bx) (.int .u64 xx) (.slice px lx cx) (v1.heap.size) rfl).alloc (.cells #[.bool by0,.int .u64 xy,.slice py ly cy] 27)).alloc (.cells #[.bool bs,.slice ps ls cs] 49)).alloc (.cells #[.bool bt,.slice pt lt ct] 49))
  have uy := (((Row3.new (v1.alloc (.cells #[.bool bx,.int .u64 xx,.slice px lx cx] 27)) (.bool by0) (.int .u64 xy) (.slice py ly cy) (v1.heap.size + 1) (by simp)).alloc (.cells #[.bool bs,.slice ps ls cs] 49)).alloc (.cells #[.bool bt,.slice pt lt ct] 49))
  have us := ((RowR.new ((v1.alloc (.cells #[.bool bx,.int .u64 xx,.slice px lx cx] 27)).alloc (.cells #[.bool by0,.int .u64 xy,.slice py ly cy] 27)) (.bool bs) (.slice ps ls cs) (v1.heap.size + 1 + 1) (by simp)).alloc (.cells #[.bool bt,.slice pt lt ct] 49))
  have ut := (RowR.new (((v1.alloc (.cells #[.bool bx,.int .u64 xx,.slice px lx cx] 27)).alloc (.cells #[.bool by0,.int .u64 xy,.slice py ly cy] 27)).alloc (.cells #[.bool bs,.slice ps ls cs] 49)) (.bool bt) (.slice pt lt ct) (v1.heap.size + 1 + 1 + 1) (by simp))
  replace hx := hx.below hb
  replace hy := hy.below hb
  replace hs := hs.below hb
  replace ht := ht.below hb
  replace hBw := hBw.trans (hb.mono hBw.size)
  clear hb
  go_wp2_with fail
  generalize ((((v1.alloc (.cells #[.bool bx,.int .u64 xx,.slice px lx cx] 27)).alloc (.cells #[.bool by0,.int .u64 xy,.slice py ly cy] 27)).alloc (.cells #[.bool bs,.slice ps ls cs] 49)).alloc (.cells #[.bool bt,.slice pt lt ct] 49)) = M1 at hBw hx hy hs ht ux uy us ut ⊢
  generalize v1.heap.size = aM1 at ux uy us ut ⊢
  have SX := lt_5 BX
  have SY := lt_5 BY
  have B20 : ∀ {z : Int} {k : Nat},k ≤ 20 → absI z < pw k → absI z < pw 20 := fun hk h => Int.lt_of_lt_of_le h (pw_mono hk)
  have Bhx : absI X < pw 20 := B20 (by decide) SX
  have Bhy : absI Y < pw 20 := B20 (by decide) SY
  have Rhs : absI X < lpw 40 := by rw [show (40 : Nat) = 2 * 20 from rfl,lpw_pwL]; exact Bhx
  have Rht : absI Y < lpw 40 := by rw [show (40 : Nat) = 2 * 20 from rfl,lpw_pwL]; exact Bhy
  have I1 : absI (X + Y) < pw 20 := B20 (by decide) (absI_add_lt SX SY)
  have I2 : absI (X - Y) < pw 20 := B20 (by decide) (absI_sub_lt SX SY)
  have I3 : absI (X * Y) < pw 20 := B20 (by decide) (absI_mul_lt SX SY)
  have I4 : absI (-X) < pw 20 := by rw [absI_neg']; exact Bhx
  obtain ⟨C,HC⟩ : ∃ C,Hid (cmpI X Y = C) := ⟨_,Lib.hid rfl⟩
  obtain ⟨S,HS⟩ : ∃ S,Hid (sgnI X = S) := ⟨_,Lib.hid rfl⟩
  clear BX BY SX SY B20
  have zux := ux.lt
  have zuy := uy.lt
  have zus := us.lt
  have zut := ut.lt
  have acc := Below.refl M1.heap.size M1
  try dsimp only [List.append]
  have csr : ∀ w',Below M1.heap.size M1 w' → w'.cell? ⟨aM1,0,none⟩ = some (.bool bx) ∧ w'.cell? ⟨aM1,1,none⟩ = some (.int .u64 xx) ∧ w'.cell? ⟨aM1,2,none⟩ = some (.slice px lx cx) ∧ w'.cell? ⟨aM1 + 1,0,none⟩ = some (.bool by0) ∧ w'.cell? ⟨aM1 + 1,1,none⟩ = some (.int .u64 xy) ∧ w'.cell? ⟨aM1 + 1,2,none⟩ = some (.slice py ly cy) ∧ w'.cell? ⟨aM1 + 1 + 1,0,none⟩ = some (.bool bs) ∧ w'.cell? ⟨aM1 + 1 + 1,1,none⟩ = some (.slice ps ls cs) ∧ w'.cell? ⟨aM1 + 1 + 1 + 1,0,none⟩ = some (.bool bt) ∧ w'.cell? ⟨aM1 + 1 + 1 + 1,1,none⟩ = some (.slice pt lt ct) := fun w' acc => ⟨(ux.below acc zux).cell0,(ux.below acc zux).cell1,(ux.below acc zux).cell2,(uy.below acc zuy).cell0,(uy.below acc zuy).cell1,(uy.below acc zuy).cell2,(us.below acc zus).cell0,(us.below acc zus).cell1,(ut.below acc zut).cell0,(ut.below acc zut).cell1⟩
  obtain ⟨ux_0,ux_1,ux_2,uy_0,uy_1,uy_2,us_0,us_1,ut_0,ut_1⟩ := csr _ acc
  go_region_held3 (fun w' => w'.cell? ⟨aM1,0,none⟩ = some (.bool bx) ∧ w'.cell? ⟨aM1,1,none⟩ = some (.int .u64 xx) ∧ w'.cell? ⟨aM1,2,none⟩ = some (.slice px lx cx) ∧ w'.cell? ⟨aM1 + 1,0,none⟩ = some (.bool by0) ∧ w'.cell? ⟨aM1 + 1,1,none⟩ = some (.int .u64 xy) ∧ w'.cell? ⟨aM1 + 1,2,none⟩ = some (.slice py ly cy) ∧ w'.cell? ⟨aM1 + 1 + 1,0,none⟩ = some (.bool bs) ∧ w'.cell? ⟨aM1 + 1 + 1,1,none⟩ = some (.slice ps ls cs) ∧ w'.cell? ⟨aM1 + 1 + 1 + 1,0,none⟩ = some (.bool bt) ∧ w'.cell? ⟨aM1 + 1 + 1 + 1,1,none⟩ = some (.slice pt lt ct))
    (first | with_reducible exact csr _ acc | with_reducible exact csr _ acc.drew)
    (first
      | (go_at_call 15; (first | (have q := known2_true M1.drew; (with_reducible refine q.mono ?_); clear q) | (have q := known2_true M1; (with_reducible refine q.mono ?_); clear q)); rintro e r0 ⟨rfl,hb⟩; (first | replace hb : Below M1.heap.size M1 r0 := hb | replace hb := below_undrew (w := M1) hb); replace acc := below_acc acc acc.size hb; clear hb ux_0 ux_1 ux_2 uy_0 uy_1 uy_2 us_0 us_1 ut_0 ut_1; obtain ⟨ux_0,ux_1,ux_2,uy_0,uy_1,uy_2,us_0,us_1,ut_0,ut_1⟩ := csr _ acc)
      | (go_at_call 24; (with_reducible refine (add_int 20 (by decide) (by decide) _ _ X Y r0 (hx.below acc) (hy.below acc) Bhx Bhy).mono ?_); rintro e r1 ⟨vs1,rfl,s1,hb⟩; obtain ⟨bs1,xs1,ps1,ls1,cs1,rfl⟩ := s1.shape; replace acc := nx acc hb; clear hb ux_0 ux_1 ux_2 uy_0 uy_1 uy_2 us_0 us_1 ut_0 ut_1; obtain ⟨ux_0,ux_1,ux_2,uy_0,uy_1,uy_2,us_0,us_1,ut_0,ut_1⟩ := csr _ acc)
      | (go_at_call 25; (with_reducible refine (add_R 40 (by decide) _ _ X Y r1 (hs.below acc) (ht.below acc) Rhs Rht).mono ?_); rintro e r2 ⟨vr1,rfl,r1,hb⟩; obtain ⟨br1,pr1,lr1,cr1,rfl⟩ := r1.shape; replace acc := nx acc hb; replace s1 := s1.below hb; clear hb ux_0 ux_1 ux_2 uy_0 uy_1 uy_2 us_0 us_1 ut_0 ut_1; obtain ⟨ux_0,ux_1,ux_2,uy_0,uy_1,uy_2,us_0,us_1,ut_0,ut_1⟩ := csr _ acc)
      | (go_at_call 23; (with_reducible refine (is_int 20 (by decide) _ _ (X + Y) I1 r2 s1 r1).mono ?_); rintro e r3 ⟨rfl,hb⟩; replace acc := nx acc hb; clear hb s1 r1 ux_0 ux_1 ux_2 uy_0 uy_1 uy_2 us_0 us_1 ut_0 ut_1; obtain ⟨ux_0,ux_1,ux_2,uy_0,uy_1,uy_2,us_0,us_1,ut_0,ut_1⟩ := csr _ acc)
      | (go_at_call 26; (with_reducible refine (sub_int 20 (by decide) (by decide) _ _ X Y r3 (hx.below acc) (hy.below acc) Bhx Bhy).mono ?_); rintro e r4 ⟨vs2,rfl,s2,hb⟩; obtain ⟨bs2,xs2,ps2,ls2,cs2,rfl⟩ := s2.shape; replace acc := nx acc hb; clear hb ux_0 ux_1 ux_2 uy_0 uy_1 uy_2 us_0 us_1 ut_0 ut_1; obtain ⟨ux_0,ux_1,ux_2,uy_0,uy_1,uy_2,us_0,us_1,ut_0,ut_1⟩ := csr _ acc)
      | (go_at_call 27; (with_reducible refine (sub_R 40 (by decide) _ _ X Y r4 (hs.below acc) (ht.below acc) Rhs Rht).mono ?_); rintro e r5 ⟨vr2,rfl,r2,hb⟩; obtain ⟨br2,pr2,lr2,cr2,rfl⟩ := r2.shape; replace acc := nx acc hb; replace s2 := s2.below hb; clear hb ux_0 ux_1 ux_2 uy_0 uy_1 uy_2 us_0 us_1 ut_0 ut_1; obtain ⟨ux_0,ux_1,ux_2,uy_0,uy_1,uy_2,us_0,us_1,ut_0,ut_1⟩ := csr _ acc)
      | (go_at_call 23; (with_reducible refine (is_int 20 (by decide) _ _ (X - Y) I2 r5 s2 r2).mono ?_); rintro e r6 ⟨rfl,hb⟩; replace acc := nx acc hb; clear hb s2 r2 ux_0 ux_1 ux_2 uy_0 uy_1 uy_2 us_0 us_1 ut_0 ut_1; obtain ⟨ux_0,ux_1,ux_2,uy_0,uy_1,uy_2,us_0,us_1,ut_0,ut_1⟩ := csr _ acc)
      | (go_at_call 28; (with_reducible refine (mul_int 20 (by decide) (by decide) _ _ X Y r6 (hx.below acc) (hy.below acc) Bhx Bhy).mono ?_); rintro e r7 ⟨vs3,rfl,s3,hb⟩; obtain ⟨bs3,xs3,ps3,ls3,cs3,rfl⟩ := s3.shape; replace acc := nx acc hb; clear hb ux_0 ux_1 ux_2 uy_0 uy_1 uy_2 us_0 us_1 ut_0 ut_1; obtain ⟨ux_0,ux_1,ux_2,uy_0,uy_1,uy_2,us_0,us_1,ut_0,ut_1⟩ := csr _ acc)
      | (go_at_call 29; (with_reducible refine (mul_R 40 (by decide) _ _ X Y r7 (hs.below acc) (ht.below acc) Rhs Rht).mono ?_); rintro e r8 ⟨vr3,rfl,r3,hb⟩; obtain ⟨br3,pr3,lr3,cr3,rfl⟩ := r3.shape; replace acc := nx acc hb; replace s3 := s3.below hb; clear hb ux_0 ux_1 ux_2 uy_0 uy_1 uy_2 us_0 us_1 ut_0 ut_1; obtain ⟨ux_0,ux_1,ux_2,uy_0,uy_1,uy_2,us_0,us_1,ut_0,ut_1⟩ := csr _ acc)
      | (go_at_call 23; (with_reducible refine (is_int 20 (by decide) _ _ (X * Y) I3 r8 s3 r3).mono ?_); rintro e r9 ⟨rfl,hb⟩; replace acc := nx acc hb; clear hb s3 r3 ux_0 ux_1 ux_2 uy_0 uy_1 uy_2 us_0 us_1 ut_0 ut_1; obtain ⟨ux_0,ux_1,ux_2,uy_0,uy_1,uy_2,us_0,us_1,ut_0,ut_1⟩ := csr _ acc)
      | (go_at_call 30; (with_reducible refine (wcmp_s _ _ X Y C HC r9 (hx.below acc) (hy.below acc)).mono ?_); rintro e r10 ⟨rfl,hb⟩; replace acc := nx acc hb; clear hb ux_0 ux_1 ux_2 uy_0 uy_1 uy_2 us_0 us_1 ut_0 ut_1; obtain ⟨ux_0,ux_1,ux_2,uy_0,uy_1,uy_2,us_0,us_1,ut_0,ut_1⟩ := csr _ acc)
      | (go_at_call 31; (with_reducible refine (cmp_Rs _ _ X Y C HC r10 (hs.below acc) (ht.below acc) Rhs Rht).mono ?_); rintro e r11 ⟨rfl,hb⟩; replace acc := nx acc hb; clear hb ux_0 ux_1 ux_2 uy_0 uy_1 uy_2 us_0 us_1 ut_0 ut_1; obtain ⟨ux_0,ux_1,ux_2,uy_0,uy_1,uy_2,us_0,us_1,ut_0,ut_1⟩ := csr _ acc)
      | (go_at_call 12; (with_reducible refine (neg_int _ X r11 (hx.below acc)).mono ?_); rintro e r12 ⟨vs4,rfl,s4,hb⟩; obtain ⟨bs4,xs4,ps4,ls4,cs4,rfl⟩ := s4.shape; replace acc := nx acc hb; clear hb ux_0 ux_1 ux_2 uy_0 uy_1 uy_2 us_0 us_1 ut_0 ut_1; obtain ⟨ux_0,ux_1,ux_2,uy_0,uy_1,uy_2,us_0,us_1,ut_0,ut_1⟩ := csr _ acc)
      | (go_at_call 32; (with_reducible refine (neg_R _ X r12 (hs.below acc)).mono ?_); rintro e r13 ⟨vr4,rfl,r4,hb⟩; obtain ⟨br4,pr4,lr4,cr4,rfl⟩ := r4.shape; replace acc := nx acc hb; replace s4 := s4.below hb; clear hb ux_0 ux_1 ux_2 uy_0 uy_1 uy_2 us_0 us_1 ut_0 ut_1; obtain ⟨ux_0,ux_1,ux_2,uy_0,uy_1,uy_2,us_0,us_1,ut_0,ut_1⟩ := csr _ acc)
      | (go_at_call 23; (with_reducible refine (is_int 20 (by decide) _ _ (-X) I4 r13 s4 r4).mono ?_); rintro e r14 ⟨rfl,hb⟩; replace acc := nx acc hb; clear hb s4 r4 ux_0 ux_1 ux_2 uy_0 uy_1 uy_2 us_0 us_1 ut_0 ut_1; obtain ⟨ux_0,ux_1,ux_2,uy_0,uy_1,uy_2,us_0,us_1,ut_0,ut_1⟩ := csr _ acc)
      | (go_at_call 17; (with_reducible refine (sign_s _ X S HS r14 (hx.below acc)).mono ?_); rintro e r15 ⟨rfl,hb⟩; replace acc := nx acc hb; clear hb ux_0 ux_1 ux_2 uy_0 uy_1 uy_2 us_0 us_1 ut_0 ut_1; obtain ⟨ux_0,ux_1,ux_2,uy_0,uy_1,uy_2,us_0,us_1,ut_0,ut_1⟩ := csr _ acc)
      | (go_at_call 33; (with_reducible refine (sign_Rs _ X S HS r15 (hs.below acc)).mono ?_); rintro e r16 ⟨rfl,hb⟩; replace acc := nx acc hb; clear hb ux_0 ux_1 ux_2 uy_0 uy_1 uy_2 us_0 us_1 ut_0 ut_1; obtain ⟨ux_0,ux_1,ux_2,uy_0,uy_1,uy_2,us_0,us_1,ut_0,ut_1⟩ := csr _ acc))
  all_goals
    replace hx := hx.below acc
    replace hy := hy.below acc
    replace hs := hs.below acc
    replace ht := ht.below acc
    replace ux := ux.below acc ux.lt
    replace uy := uy.below acc uy.lt
    replace us := us.below acc us.lt
    replace ut := ut.below acc ut.lt
    replace hBw := hBw.trans (acc.mono hBw.size)
    clear acc ux_0 ux_1 ux_2 uy_0 uy_1 uy_2 us_0 us_1 ut_0 ut_1 csr
    go_wp2
    go_ret
    exact ⟨rfl,hBw⟩
end Go.Proofs.YtlkblgpekbeljaaGreatDoor
