/- WholeRing,walked. (gen_wring.py) -/
import Derived.Test.YtlkblgpekbeljaaGreatDoorWhoLaw
import Derived.Test.YtlkblgpekbeljaaGreatDoorWhoY
namespace Go.Proofs.YtlkblgpekbeljaaGreatDoor
open Go.RowKit
set_option linter.unusedVariables false

theorem BArg.len {w : World} {v : Value} (h : BArg w v) : ∀ p l k,v = .slice p l k → l ≤ 9223372036854775807 := by
  rintro p l k rfl
  rcases h with h | ⟨a,cap,h,hc⟩ | ⟨b,off,len,cap,zs,h,h1,h2,h3,h4,h5,h6,hc⟩
  · cases h; exact Nat.zero_le _
  · cases h; exact Nat.zero_le _
  · cases h; exact h4
set_option maxRecDepth 100000 in
set_option maxHeartbeats 8000000 in
theorem wholeRing_walk (a b c : Value) (neg not : Bool) (w : World) (ha : BArg w a) (hb0 : BArg w b) (hc : BArg w c) : Calls Tryz.prog 6 #[a,b,c,.bool neg,.bool not] w fun e w' => e = .returned (.bool true) ∧ Below w.heap.size w w' := by
  have hBw := Below.refl w.heap.size w
  have na := ha.len
  have nb := hb0.len
  have nc := hc.len
  go_enter Tryz.func6,Tryz.ntmps6
  go_wp2_with fail
  refine (two2_any _ _ a b neg not w ha hb0 na nb).mono ?_
  rintro e v1 ⟨_,_,_,_,X,Y,rfl,hx,hy,hs,ht,BX,BY,hb⟩
  obtain ⟨bx,xx,px,lx,cx,rfl⟩ := hx.shape
  obtain ⟨by0,xy,py,ly,cy,rfl⟩ := hy.shape
  obtain ⟨bs,ps,ls,cs,rfl⟩ := hs.shape
  obtain ⟨bt,pt,lt,ct,rfl⟩ := ht.shape
  clear hs ht ha hb0 na nb
  replace hc := hc.below hb
  replace hBw := hBw.trans (hb.mono hBw.size)
  clear hb
  have hb : Below v1.heap.size v1 ((((v1.alloc (.cells #[.bool bx,.int .u64 xx,.slice px lx cx] 27)).alloc (.cells #[.bool by0,.int .u64 xy,.slice py ly cy] 27)).alloc (.cells #[.bool bs,.slice ps ls cs] 49)).alloc (.cells #[.bool bt,.slice pt lt ct] 49)) := by go_grown
  have ux := ((((Row3.new v1 (.bool bx) (.int .u64 xx) (.slice px lx cx) (v1.heap.size) rfl).alloc (.cells #[.bool by0,.int .u64 xy,.slice py ly cy] 27)).alloc (.cells #[.bool bs,.slice ps ls cs] 49)).alloc (.cells #[.bool bt,.slice pt lt ct] 49))
  have uy := (((Row3.new (v1.alloc (.cells #[.bool bx,.int .u64 xx,.slice px lx cx] 27)) (.bool by0) (.int .u64 xy) (.slice py ly cy) (v1.heap.size + 1) (by simp)).alloc (.cells #[.bool bs,.slice ps ls cs] 49)).alloc (.cells #[.bool bt,.slice pt lt ct] 49))
  replace hc := hc.below hb
  replace hx := hx.below hb
  replace hy := hy.below hb
  replace hBw := hBw.trans (hb.mono hBw.size)
  clear hb
  go_wp2_with fail
  generalize ((((v1.alloc (.cells #[.bool bx,.int .u64 xx,.slice px lx cx] 27)).alloc (.cells #[.bool by0,.int .u64 xy,.slice py ly cy] 27)).alloc (.cells #[.bool bs,.slice ps ls cs] 49)).alloc (.cells #[.bool bt,.slice pt lt ct] 49)) = M1 at hBw hc hx hy ux uy ⊢
  generalize v1.heap.size = aM1 at ux uy ⊢
  refine (two2_any _ 0 c (.slice none 0 0) _ false M1 hc (.inl rfl) nc (by rintro p l k h; cases h; exact Nat.le_refl _)).mono ?_
  rintro e v2 ⟨_,_,_,_,Z,O,rfl,hz,ho,hs,ht,BZ,_,hb⟩
  obtain ⟨bz,xz,pz,lz,cz,rfl⟩ := hz.shape
  obtain ⟨bo,xo,po,lo,co,rfl⟩ := ho.shape
  obtain ⟨bs,ps,ls,cs,rfl⟩ := hs.shape
  obtain ⟨bt,pt,lt,ct,rfl⟩ := ht.shape
  clear hs ht ho
  replace hc := hc.below hb
  replace hx := hx.below hb
  replace hy := hy.below hb
  replace ux := ux.below hb ux.lt
  replace uy := uy.below hb uy.lt
  replace hBw := hBw.trans (hb.mono hBw.size)
  clear hb
  clear hc nc
  have hb : Below v2.heap.size v2 ((((v2.alloc (.cells #[.bool bz,.int .u64 xz,.slice pz lz cz] 27)).alloc (.cells #[.bool bo,.int .u64 xo,.slice po lo co] 27)).alloc (.cells #[.bool bs,.slice ps ls cs] 49)).alloc (.cells #[.bool bt,.slice pt lt ct] 49)) := by go_grown
  have uz := ((((Row3.new v2 (.bool bz) (.int .u64 xz) (.slice pz lz cz) (v2.heap.size) rfl).alloc (.cells #[.bool bo,.int .u64 xo,.slice po lo co] 27)).alloc (.cells #[.bool bs,.slice ps ls cs] 49)).alloc (.cells #[.bool bt,.slice pt lt ct] 49))
  replace hx := hx.below hb
  replace hy := hy.below hb
  replace ux := ux.below hb ux.lt
  replace uy := uy.below hb uy.lt
  replace hz := hz.below hb
  replace hBw := hBw.trans (hb.mono hBw.size)
  clear hb
  have ux_0 := ux.cell0
  have ux_1 := ux.cell1
  have ux_2 := ux.cell2
  have uy_0 := uy.cell0
  have uy_1 := uy.cell1
  have uy_2 := uy.cell2
  go_wp2_with fail
  clear ux_0 ux_1 ux_2 uy_0 uy_1 uy_2
  generalize ((((v2.alloc (.cells #[.bool bz,.int .u64 xz,.slice pz lz cz] 27)).alloc (.cells #[.bool bo,.int .u64 xo,.slice po lo co] 27)).alloc (.cells #[.bool bs,.slice ps ls cs] 49)).alloc (.cells #[.bool bt,.slice pt lt ct] 49)) = M2 at hBw hx hy ux uy hz uz ⊢
  generalize v2.heap.size = aM2 at uz ⊢
  have KX : absI X < pw 20 := Int.lt_of_lt_of_le BX (lpw_20 (by omega))
  have KY : absI Y < pw 20 := Int.lt_of_lt_of_le BY (lpw_20 (by omega))
  have KZ : absI Z < pw 20 := Int.lt_of_lt_of_le BZ (lpw_20 (by omega))
  refine (div_gen 20 (by decide) _ _ X Y M2 hx hy KX KY (by decide +kernel)).mono ?_
  rintro e v3 ⟨_,_,ok,rfl,hok,hq,hr,hb⟩
  obtain ⟨bq,xq,pq,lq,cq,rfl⟩ := hq.shape
  obtain ⟨br,xr,pr,lr,cr,rfl⟩ := hr.shape
  replace hx := hx.below hb
  replace hy := hy.below hb
  replace ux := ux.below hb ux.lt
  replace uy := uy.below hb uy.lt
  replace hz := hz.below hb
  replace uz := uz.below hb uz.lt
  replace hBw := hBw.trans (hb.mono hBw.size)
  clear hb
  have hb : Below v3.heap.size v3 ((v3.alloc (.cells #[.bool bq,.int .u64 xq,.slice pq lq cq] 27)).alloc (.cells #[.bool br,.int .u64 xr,.slice pr lr cr] 27)) := by go_grown
  have uq := ((Row3.new v3 (.bool bq) (.int .u64 xq) (.slice pq lq cq) (v3.heap.size) rfl).alloc (.cells #[.bool br,.int .u64 xr,.slice pr lr cr] 27))
  have ur := (Row3.new (v3.alloc (.cells #[.bool bq,.int .u64 xq,.slice pq lq cq] 27)) (.bool br) (.int .u64 xr) (.slice pr lr cr) (v3.heap.size + 1) (by simp))
  replace hx := hx.below hb
  replace hy := hy.below hb
  replace ux := ux.below hb ux.lt
  replace uy := uy.below hb uy.lt
  replace hz := hz.below hb
  replace uz := uz.below hb uz.lt
  replace hq := hq.below hb
  replace hr := hr.below hb
  replace hBw := hBw.trans (hb.mono hBw.size)
  clear hb
  go_wp2_with fail
  generalize ((v3.alloc (.cells #[.bool bq,.int .u64 xq,.slice pq lq cq] 27)).alloc (.cells #[.bool br,.int .u64 xr,.slice pr lr cr] 27)) = M3 at hBw hx hy ux uy hz uz hq hr uq ur ⊢
  generalize v3.heap.size = aM3 at uq ur ⊢
  obtain ⟨yz,hyz⟩ : ∃ yz,decide (Y = 0) = yz := ⟨_,rfl⟩
  rw [hyz]
  clear hok
  have Bhx := KX
  have Bhy := KY
  have Bhz := KZ
  have SX := lt_5 BX
  have SY := lt_5 BY
  have SZ := lt_5 BZ
  clear BX BY BZ KX KY KZ
  have B10 : ∀ {z : Int},absI z < pw 6 → absI z < pw 20 := fun h => Int.lt_of_lt_of_le h (pw_mono (by decide))
  have B12 : ∀ {z : Int},absI z < pw 12 → absI z < pw 20 := fun h => Int.lt_of_lt_of_le h (pw_mono (by decide))
  have up5 : ∀ {z : Int},absI z < pw 5 → absI z < pw 6 := fun h => Int.lt_of_lt_of_le h (pw_mono (by decide))
  have E1 : (X + Y) = (Y + X) := Int.add_comm _ _
  have E2 : (X * (Y + Z)) = ((X * Y) + (X * Z)) := Int.mul_add _ _ _
  have E3 : ((X - Y) + Y) = X := Int.sub_add_cancel _ _
  have E4 : ((X * Y) * Z) = ((Z * Y) * X) := by rw [Int.mul_comm Z Y,Int.mul_assoc,Int.mul_comm X]
  have E5 : (-(-X)) = X := Int.neg_neg _
  have Bs3 : absI (Y + Z) < pw 20 := B10 (absI_add_lt SY SZ)
  have Bs5 : absI (X * Y) < pw 20 := B12 (absI_mul_lt (up5 SX) (up5 SY))
  have Bs6 : absI (X * Z) < pw 20 := B12 (absI_mul_lt (up5 SX) (up5 SZ))
  have Bs8 : absI (X - Y) < pw 20 := B10 (absI_sub_lt SX SY)
  have Bs10 := Bs5
  have Bs12 : absI (Z * Y) < pw 20 := B12 (absI_mul_lt (up5 SZ) (up5 SY))
  have SQ : absI (qD X Y) < pw 6 := qD_bd SX (by decide +kernel)
  have Bhq := B10 SQ
  have Bhr : absI (rD X Y) < pw 20 := B10 (up5 (rD_bd SY))
  have Bm1 : absI (qD X Y * Y) < pw 20 := B12 (absI_mul_lt SQ (up5 SY))
  cases yz with
  | true =>
    have HY0 := Lib.hid (of_decide_eq_true hyz)
    have HS : Hid (sgnI Y = 0) := Lib.hid (sgnI_zero HY0.out)
    clear hyz SX SY SZ SQ B10 B12 up5
    have zux := ux.lt
    have zuy := uy.lt
    have zuz := uz.lt
    have acc := Below.refl M3.heap.size M3
    try dsimp only [List.append]
    have csr : ∀ w',Below M3.heap.size M3 w' → w'.cell? ⟨aM1,0,none⟩ = some (.bool bx) ∧ w'.cell? ⟨aM1,1,none⟩ = some (.int .u64 xx) ∧ w'.cell? ⟨aM1,2,none⟩ = some (.slice px lx cx) ∧ w'.cell? ⟨aM1 + 1,0,none⟩ = some (.bool by0) ∧ w'.cell? ⟨aM1 + 1,1,none⟩ = some (.int .u64 xy) ∧ w'.cell? ⟨aM1 + 1,2,none⟩ = some (.slice py ly cy) ∧ w'.cell? ⟨aM2,0,none⟩ = some (.bool bz) ∧ w'.cell? ⟨aM2,1,none⟩ = some (.int .u64 xz) ∧ w'.cell? ⟨aM2,2,none⟩ = some (.slice pz lz cz) := fun w' acc => ⟨(ux.below acc zux).cell0,(ux.below acc zux).cell1,(ux.below acc zux).cell2,(uy.below acc zuy).cell0,(uy.below acc zuy).cell1,(uy.below acc zuy).cell2,(uz.below acc zuz).cell0,(uz.below acc zuz).cell1,(uz.below acc zuz).cell2⟩
    obtain ⟨ux_0,ux_1,ux_2,uy_0,uy_1,uy_2,uz_0,uz_1,uz_2⟩ := csr _ acc
    go_region_held3 (fun w' => w'.cell? ⟨aM1,0,none⟩ = some (.bool bx) ∧ w'.cell? ⟨aM1,1,none⟩ = some (.int .u64 xx) ∧ w'.cell? ⟨aM1,2,none⟩ = some (.slice px lx cx) ∧ w'.cell? ⟨aM1 + 1,0,none⟩ = some (.bool by0) ∧ w'.cell? ⟨aM1 + 1,1,none⟩ = some (.int .u64 xy) ∧ w'.cell? ⟨aM1 + 1,2,none⟩ = some (.slice py ly cy) ∧ w'.cell? ⟨aM2,0,none⟩ = some (.bool bz) ∧ w'.cell? ⟨aM2,1,none⟩ = some (.int .u64 xz) ∧ w'.cell? ⟨aM2,2,none⟩ = some (.slice pz lz cz))
      (first | with_reducible exact csr _ acc | with_reducible exact csr _ acc.drew)
      (first
        | (go_at_call 15; (first | (have q := known2_true M3.drew; (with_reducible refine q.mono ?_); clear q) | (have q := known2_true M3; (with_reducible refine q.mono ?_); clear q)); rintro e r0 ⟨rfl,hb⟩; (first | replace hb : Below M3.heap.size M3 r0 := hb | replace hb := below_undrew (w := M3) hb); replace acc := below_acc acc acc.size hb; clear hb ux_0 ux_1 ux_2 uy_0 uy_1 uy_2 uz_0 uz_1 uz_2; obtain ⟨ux_0,ux_1,ux_2,uy_0,uy_1,uy_2,uz_0,uz_1,uz_2⟩ := csr _ acc)
        | (go_at_call 24; (with_reducible refine (add_int 20 (by decide) (by decide) _ _ X Y r0 (hx.below acc) (hy.below acc) Bhx Bhy).mono ?_); rintro e r1 ⟨vs1,rfl,s1,hb⟩; obtain ⟨bs1,xs1,ps1,ls1,cs1,rfl⟩ := s1.shape; replace acc := nx acc hb; clear hb ux_0 ux_1 ux_2 uy_0 uy_1 uy_2 uz_0 uz_1 uz_2; obtain ⟨ux_0,ux_1,ux_2,uy_0,uy_1,uy_2,uz_0,uz_1,uz_2⟩ := csr _ acc)
        | (go_at_call 24; (with_reducible refine (add_int 20 (by decide) (by decide) _ _ Y X r1 (hy.below acc) (hx.below acc) Bhy Bhx).mono ?_); rintro e r2 ⟨vs2,rfl,s2,hb⟩; obtain ⟨bs2,xs2,ps2,ls2,cs2,rfl⟩ := s2.shape; replace acc := nx acc hb; replace s1 := s1.below hb; clear hb ux_0 ux_1 ux_2 uy_0 uy_1 uy_2 uz_0 uz_1 uz_2; obtain ⟨ux_0,ux_1,ux_2,uy_0,uy_1,uy_2,uz_0,uz_1,uz_2⟩ := csr _ acc)
        | (go_at_call 30; (with_reducible refine (wcmp_alike _ _ (X + Y) (Y + X) r2 s1 s2 E1).mono ?_); rintro e r3 ⟨rfl,hb⟩; replace acc := nx acc hb; clear hb s1 s2 ux_0 ux_1 ux_2 uy_0 uy_1 uy_2 uz_0 uz_1 uz_2; obtain ⟨ux_0,ux_1,ux_2,uy_0,uy_1,uy_2,uz_0,uz_1,uz_2⟩ := csr _ acc)
        | (go_at_call 24; (with_reducible refine (add_int 20 (by decide) (by decide) _ _ Y Z r3 (hy.below acc) (hz.below acc) Bhy Bhz).mono ?_); rintro e r4 ⟨vs3,rfl,s3,hb⟩; obtain ⟨bs3,xs3,ps3,ls3,cs3,rfl⟩ := s3.shape; replace acc := nx acc hb; clear hb ux_0 ux_1 ux_2 uy_0 uy_1 uy_2 uz_0 uz_1 uz_2; obtain ⟨ux_0,ux_1,ux_2,uy_0,uy_1,uy_2,uz_0,uz_1,uz_2⟩ := csr _ acc)
        | (go_at_call 28; (with_reducible refine (mul_int 20 (by decide) (by decide) _ _ X (Y + Z) r4 (hx.below acc) s3 Bhx Bs3).mono ?_); rintro e r5 ⟨vs4,rfl,s4,hb⟩; obtain ⟨bs4,xs4,ps4,ls4,cs4,rfl⟩ := s4.shape; replace acc := nx acc hb; clear hb s3 ux_0 ux_1 ux_2 uy_0 uy_1 uy_2 uz_0 uz_1 uz_2; obtain ⟨ux_0,ux_1,ux_2,uy_0,uy_1,uy_2,uz_0,uz_1,uz_2⟩ := csr _ acc)
        | (go_at_call 28; (with_reducible refine (mul_int 20 (by decide) (by decide) _ _ X Y r5 (hx.below acc) (hy.below acc) Bhx Bhy).mono ?_); rintro e r6 ⟨vs5,rfl,s5,hb⟩; obtain ⟨bs5,xs5,ps5,ls5,cs5,rfl⟩ := s5.shape; replace acc := nx acc hb; replace s4 := s4.below hb; clear hb ux_0 ux_1 ux_2 uy_0 uy_1 uy_2 uz_0 uz_1 uz_2; obtain ⟨ux_0,ux_1,ux_2,uy_0,uy_1,uy_2,uz_0,uz_1,uz_2⟩ := csr _ acc)
        | (go_at_call 28; (with_reducible refine (mul_int 20 (by decide) (by decide) _ _ X Z r6 (hx.below acc) (hz.below acc) Bhx Bhz).mono ?_); rintro e r7 ⟨vs6,rfl,s6,hb⟩; obtain ⟨bs6,xs6,ps6,ls6,cs6,rfl⟩ := s6.shape; replace acc := nx acc hb; replace s4 := s4.below hb; replace s5 := s5.below hb; clear hb ux_0 ux_1 ux_2 uy_0 uy_1 uy_2 uz_0 uz_1 uz_2; obtain ⟨ux_0,ux_1,ux_2,uy_0,uy_1,uy_2,uz_0,uz_1,uz_2⟩ := csr _ acc)
        | (go_at_call 24; (with_reducible refine (add_int 20 (by decide) (by decide) _ _ (X * Y) (X * Z) r7 s5 s6 Bs5 Bs6).mono ?_); rintro e r8 ⟨vs7,rfl,s7,hb⟩; obtain ⟨bs7,xs7,ps7,ls7,cs7,rfl⟩ := s7.shape; replace acc := nx acc hb; replace s4 := s4.below hb; clear hb s5 s6 ux_0 ux_1 ux_2 uy_0 uy_1 uy_2 uz_0 uz_1 uz_2; obtain ⟨ux_0,ux_1,ux_2,uy_0,uy_1,uy_2,uz_0,uz_1,uz_2⟩ := csr _ acc)
        | (go_at_call 30; (with_reducible refine (wcmp_alike _ _ (X * (Y + Z)) ((X * Y) + (X * Z)) r8 s4 s7 E2).mono ?_); rintro e r9 ⟨rfl,hb⟩; replace acc := nx acc hb; clear hb s4 s7 ux_0 ux_1 ux_2 uy_0 uy_1 uy_2 uz_0 uz_1 uz_2; obtain ⟨ux_0,ux_1,ux_2,uy_0,uy_1,uy_2,uz_0,uz_1,uz_2⟩ := csr _ acc)
        | (go_at_call 26; (with_reducible refine (sub_int 20 (by decide) (by decide) _ _ X Y r9 (hx.below acc) (hy.below acc) Bhx Bhy).mono ?_); rintro e r10 ⟨vs8,rfl,s8,hb⟩; obtain ⟨bs8,xs8,ps8,ls8,cs8,rfl⟩ := s8.shape; replace acc := nx acc hb; clear hb ux_0 ux_1 ux_2 uy_0 uy_1 uy_2 uz_0 uz_1 uz_2; obtain ⟨ux_0,ux_1,ux_2,uy_0,uy_1,uy_2,uz_0,uz_1,uz_2⟩ := csr _ acc)
        | (go_at_call 24; (with_reducible refine (add_int 20 (by decide) (by decide) _ _ (X - Y) Y r10 s8 (hy.below acc) Bs8 Bhy).mono ?_); rintro e r11 ⟨vs9,rfl,s9,hb⟩; obtain ⟨bs9,xs9,ps9,ls9,cs9,rfl⟩ := s9.shape; replace acc := nx acc hb; clear hb s8 ux_0 ux_1 ux_2 uy_0 uy_1 uy_2 uz_0 uz_1 uz_2; obtain ⟨ux_0,ux_1,ux_2,uy_0,uy_1,uy_2,uz_0,uz_1,uz_2⟩ := csr _ acc)
        | (go_at_call 30; (with_reducible refine (wcmp_alike _ _ ((X - Y) + Y) X r11 s9 (hx.below acc) E3).mono ?_); rintro e r12 ⟨rfl,hb⟩; replace acc := nx acc hb; clear hb s9 ux_0 ux_1 ux_2 uy_0 uy_1 uy_2 uz_0 uz_1 uz_2; obtain ⟨ux_0,ux_1,ux_2,uy_0,uy_1,uy_2,uz_0,uz_1,uz_2⟩ := csr _ acc)
        | (go_at_call 28; (with_reducible refine (mul_int 20 (by decide) (by decide) _ _ X Y r12 (hx.below acc) (hy.below acc) Bhx Bhy).mono ?_); rintro e r13 ⟨vs10,rfl,s10,hb⟩; obtain ⟨bs10,xs10,ps10,ls10,cs10,rfl⟩ := s10.shape; replace acc := nx acc hb; clear hb ux_0 ux_1 ux_2 uy_0 uy_1 uy_2 uz_0 uz_1 uz_2; obtain ⟨ux_0,ux_1,ux_2,uy_0,uy_1,uy_2,uz_0,uz_1,uz_2⟩ := csr _ acc)
        | (go_at_call 28; (with_reducible refine (mul_int 20 (by decide) (by decide) _ _ (X * Y) Z r13 s10 (hz.below acc) Bs10 Bhz).mono ?_); rintro e r14 ⟨vs11,rfl,s11,hb⟩; obtain ⟨bs11,xs11,ps11,ls11,cs11,rfl⟩ := s11.shape; replace acc := nx acc hb; clear hb s10 ux_0 ux_1 ux_2 uy_0 uy_1 uy_2 uz_0 uz_1 uz_2; obtain ⟨ux_0,ux_1,ux_2,uy_0,uy_1,uy_2,uz_0,uz_1,uz_2⟩ := csr _ acc)
        | (go_at_call 28; (with_reducible refine (mul_int 20 (by decide) (by decide) _ _ Z Y r14 (hz.below acc) (hy.below acc) Bhz Bhy).mono ?_); rintro e r15 ⟨vs12,rfl,s12,hb⟩; obtain ⟨bs12,xs12,ps12,ls12,cs12,rfl⟩ := s12.shape; replace acc := nx acc hb; replace s11 := s11.below hb; clear hb ux_0 ux_1 ux_2 uy_0 uy_1 uy_2 uz_0 uz_1 uz_2; obtain ⟨ux_0,ux_1,ux_2,uy_0,uy_1,uy_2,uz_0,uz_1,uz_2⟩ := csr _ acc)
        | (go_at_call 28; (with_reducible refine (mul_int 20 (by decide) (by decide) _ _ (Z * Y) X r15 s12 (hx.below acc) Bs12 Bhx).mono ?_); rintro e r16 ⟨vs13,rfl,s13,hb⟩; obtain ⟨bs13,xs13,ps13,ls13,cs13,rfl⟩ := s13.shape; replace acc := nx acc hb; replace s11 := s11.below hb; clear hb s12 ux_0 ux_1 ux_2 uy_0 uy_1 uy_2 uz_0 uz_1 uz_2; obtain ⟨ux_0,ux_1,ux_2,uy_0,uy_1,uy_2,uz_0,uz_1,uz_2⟩ := csr _ acc)
        | (go_at_call 30; (with_reducible refine (wcmp_alike _ _ ((X * Y) * Z) ((Z * Y) * X) r16 s11 s13 E4).mono ?_); rintro e r17 ⟨rfl,hb⟩; replace acc := nx acc hb; clear hb s11 s13 ux_0 ux_1 ux_2 uy_0 uy_1 uy_2 uz_0 uz_1 uz_2; obtain ⟨ux_0,ux_1,ux_2,uy_0,uy_1,uy_2,uz_0,uz_1,uz_2⟩ := csr _ acc)
        | (go_at_call 12; (with_reducible refine (neg_int _ X r17 (hx.below acc)).mono ?_); rintro e r18 ⟨vs14,rfl,s14,hb⟩; obtain ⟨bs14,xs14,ps14,ls14,cs14,rfl⟩ := s14.shape; replace acc := nx acc hb; clear hb ux_0 ux_1 ux_2 uy_0 uy_1 uy_2 uz_0 uz_1 uz_2; obtain ⟨ux_0,ux_1,ux_2,uy_0,uy_1,uy_2,uz_0,uz_1,uz_2⟩ := csr _ acc)
        | (go_at_call 12; (with_reducible refine (neg_int _ (-X) r18 s14).mono ?_); rintro e r19 ⟨vs15,rfl,s15,hb⟩; obtain ⟨bs15,xs15,ps15,ls15,cs15,rfl⟩ := s15.shape; replace acc := nx acc hb; clear hb s14 ux_0 ux_1 ux_2 uy_0 uy_1 uy_2 uz_0 uz_1 uz_2; obtain ⟨ux_0,ux_1,ux_2,uy_0,uy_1,uy_2,uz_0,uz_1,uz_2⟩ := csr _ acc)
        | (go_at_call 30; (with_reducible refine (wcmp_alike _ _ (-(-X)) X r19 s15 (hx.below acc) E5).mono ?_); rintro e r20 ⟨rfl,hb⟩; replace acc := nx acc hb; clear hb s15 ux_0 ux_1 ux_2 uy_0 uy_1 uy_2 uz_0 uz_1 uz_2; obtain ⟨ux_0,ux_1,ux_2,uy_0,uy_1,uy_2,uz_0,uz_1,uz_2⟩ := csr _ acc)
        | (go_at_call 17; (with_reducible refine (sign_s _ Y _ HS r20 (hy.below acc)).mono ?_); rintro e r21 ⟨rfl,hb⟩; replace acc := nx acc hb; clear hb ux_0 ux_1 ux_2 uy_0 uy_1 uy_2 uz_0 uz_1 uz_2; obtain ⟨ux_0,ux_1,ux_2,uy_0,uy_1,uy_2,uz_0,uz_1,uz_2⟩ := csr _ acc))
    all_goals
      replace hx := hx.below acc
      replace hy := hy.below acc
      replace ux := ux.below acc ux.lt
      replace uy := uy.below acc uy.lt
      replace hz := hz.below acc
      replace uz := uz.below acc uz.lt
      replace hq := hq.below acc
      replace hr := hr.below acc
      replace uq := uq.below acc uq.lt
      replace ur := ur.below acc ur.lt
      replace hBw := hBw.trans (acc.mono hBw.size)
      clear acc ux_0 ux_1 ux_2 uy_0 uy_1 uy_2 uz_0 uz_1 uz_2 csr
      go_wp2_with fail
      try dsimp only [List.append]
      go_region
      go_wp2
      go_ret
      exact ⟨rfl,hBw.drew⟩
  | false =>
    have hY := of_decide_eq_false hyz
    obtain ⟨sY,HS,hs,hsn,hsb⟩ : ∃ s,Hid (sgnI Y = s) ∧ ¬ s = 0 ∧ (s != 0) = true ∧ (s == 0) = false := by rcases sgnI_ne hY with h | h <;> exact ⟨_,Lib.hid h,by decide,by decide,by decide⟩
    have E6 : qD X Y * Y + rD X Y = X := qrD hY
    have E7 : absI (rD X Y) < absI Y := rD_lt hY
    have HR0 : rD X Y = 0 → Hid (sgnI (rD X Y) = 0) := fun h => Lib.hid (sgnI_zero h)
    have HR1 : rD X Y ≠ 0 → Hid (sgnI (rD X Y) = sY) := fun h => Lib.hid ((rD_sgn hY h).trans HS.out)
    have HY := Lib.hid hY
    clear hyz hY SX SY SZ SQ B10 B12 up5
    have zux := ux.lt
    have zuy := uy.lt
    have zuz := uz.lt
    have acc := Below.refl M3.heap.size M3
    try dsimp only [List.append]
    have csr : ∀ w',Below M3.heap.size M3 w' → w'.cell? ⟨aM1,0,none⟩ = some (.bool bx) ∧ w'.cell? ⟨aM1,1,none⟩ = some (.int .u64 xx) ∧ w'.cell? ⟨aM1,2,none⟩ = some (.slice px lx cx) ∧ w'.cell? ⟨aM1 + 1,0,none⟩ = some (.bool by0) ∧ w'.cell? ⟨aM1 + 1,1,none⟩ = some (.int .u64 xy) ∧ w'.cell? ⟨aM1 + 1,2,none⟩ = some (.slice py ly cy) ∧ w'.cell? ⟨aM2,0,none⟩ = some (.bool bz) ∧ w'.cell? ⟨aM2,1,none⟩ = some (.int .u64 xz) ∧ w'.cell? ⟨aM2,2,none⟩ = some (.slice pz lz cz) := fun w' acc => ⟨(ux.below acc zux).cell0,(ux.below acc zux).cell1,(ux.below acc zux).cell2,(uy.below acc zuy).cell0,(uy.below acc zuy).cell1,(uy.below acc zuy).cell2,(uz.below acc zuz).cell0,(uz.below acc zuz).cell1,(uz.below acc zuz).cell2⟩
    obtain ⟨ux_0,ux_1,ux_2,uy_0,uy_1,uy_2,uz_0,uz_1,uz_2⟩ := csr _ acc
    go_region_held3 (fun w' => w'.cell? ⟨aM1,0,none⟩ = some (.bool bx) ∧ w'.cell? ⟨aM1,1,none⟩ = some (.int .u64 xx) ∧ w'.cell? ⟨aM1,2,none⟩ = some (.slice px lx cx) ∧ w'.cell? ⟨aM1 + 1,0,none⟩ = some (.bool by0) ∧ w'.cell? ⟨aM1 + 1,1,none⟩ = some (.int .u64 xy) ∧ w'.cell? ⟨aM1 + 1,2,none⟩ = some (.slice py ly cy) ∧ w'.cell? ⟨aM2,0,none⟩ = some (.bool bz) ∧ w'.cell? ⟨aM2,1,none⟩ = some (.int .u64 xz) ∧ w'.cell? ⟨aM2,2,none⟩ = some (.slice pz lz cz))
      (first | with_reducible exact csr _ acc | with_reducible exact csr _ acc.drew)
      (first
        | (go_at_call 15; (first | (have q := known2_true M3.drew; (with_reducible refine q.mono ?_); clear q) | (have q := known2_true M3; (with_reducible refine q.mono ?_); clear q)); rintro e r0 ⟨rfl,hb⟩; (first | replace hb : Below M3.heap.size M3 r0 := hb | replace hb := below_undrew (w := M3) hb); replace acc := below_acc acc acc.size hb; clear hb ux_0 ux_1 ux_2 uy_0 uy_1 uy_2 uz_0 uz_1 uz_2; obtain ⟨ux_0,ux_1,ux_2,uy_0,uy_1,uy_2,uz_0,uz_1,uz_2⟩ := csr _ acc)
        | (go_at_call 24; (with_reducible refine (add_int 20 (by decide) (by decide) _ _ X Y r0 (hx.below acc) (hy.below acc) Bhx Bhy).mono ?_); rintro e r1 ⟨vs1,rfl,s1,hb⟩; obtain ⟨bs1,xs1,ps1,ls1,cs1,rfl⟩ := s1.shape; replace acc := nx acc hb; clear hb ux_0 ux_1 ux_2 uy_0 uy_1 uy_2 uz_0 uz_1 uz_2; obtain ⟨ux_0,ux_1,ux_2,uy_0,uy_1,uy_2,uz_0,uz_1,uz_2⟩ := csr _ acc)
        | (go_at_call 24; (with_reducible refine (add_int 20 (by decide) (by decide) _ _ Y X r1 (hy.below acc) (hx.below acc) Bhy Bhx).mono ?_); rintro e r2 ⟨vs2,rfl,s2,hb⟩; obtain ⟨bs2,xs2,ps2,ls2,cs2,rfl⟩ := s2.shape; replace acc := nx acc hb; replace s1 := s1.below hb; clear hb ux_0 ux_1 ux_2 uy_0 uy_1 uy_2 uz_0 uz_1 uz_2; obtain ⟨ux_0,ux_1,ux_2,uy_0,uy_1,uy_2,uz_0,uz_1,uz_2⟩ := csr _ acc)
        | (go_at_call 30; (with_reducible refine (wcmp_alike _ _ (X + Y) (Y + X) r2 s1 s2 E1).mono ?_); rintro e r3 ⟨rfl,hb⟩; replace acc := nx acc hb; clear hb s1 s2 ux_0 ux_1 ux_2 uy_0 uy_1 uy_2 uz_0 uz_1 uz_2; obtain ⟨ux_0,ux_1,ux_2,uy_0,uy_1,uy_2,uz_0,uz_1,uz_2⟩ := csr _ acc)
        | (go_at_call 24; (with_reducible refine (add_int 20 (by decide) (by decide) _ _ Y Z r3 (hy.below acc) (hz.below acc) Bhy Bhz).mono ?_); rintro e r4 ⟨vs3,rfl,s3,hb⟩; obtain ⟨bs3,xs3,ps3,ls3,cs3,rfl⟩ := s3.shape; replace acc := nx acc hb; clear hb ux_0 ux_1 ux_2 uy_0 uy_1 uy_2 uz_0 uz_1 uz_2; obtain ⟨ux_0,ux_1,ux_2,uy_0,uy_1,uy_2,uz_0,uz_1,uz_2⟩ := csr _ acc)
        | (go_at_call 28; (with_reducible refine (mul_int 20 (by decide) (by decide) _ _ X (Y + Z) r4 (hx.below acc) s3 Bhx Bs3).mono ?_); rintro e r5 ⟨vs4,rfl,s4,hb⟩; obtain ⟨bs4,xs4,ps4,ls4,cs4,rfl⟩ := s4.shape; replace acc := nx acc hb; clear hb s3 ux_0 ux_1 ux_2 uy_0 uy_1 uy_2 uz_0 uz_1 uz_2; obtain ⟨ux_0,ux_1,ux_2,uy_0,uy_1,uy_2,uz_0,uz_1,uz_2⟩ := csr _ acc)
        | (go_at_call 28; (with_reducible refine (mul_int 20 (by decide) (by decide) _ _ X Y r5 (hx.below acc) (hy.below acc) Bhx Bhy).mono ?_); rintro e r6 ⟨vs5,rfl,s5,hb⟩; obtain ⟨bs5,xs5,ps5,ls5,cs5,rfl⟩ := s5.shape; replace acc := nx acc hb; replace s4 := s4.below hb; clear hb ux_0 ux_1 ux_2 uy_0 uy_1 uy_2 uz_0 uz_1 uz_2; obtain ⟨ux_0,ux_1,ux_2,uy_0,uy_1,uy_2,uz_0,uz_1,uz_2⟩ := csr _ acc)
        | (go_at_call 28; (with_reducible refine (mul_int 20 (by decide) (by decide) _ _ X Z r6 (hx.below acc) (hz.below acc) Bhx Bhz).mono ?_); rintro e r7 ⟨vs6,rfl,s6,hb⟩; obtain ⟨bs6,xs6,ps6,ls6,cs6,rfl⟩ := s6.shape; replace acc := nx acc hb; replace s4 := s4.below hb; replace s5 := s5.below hb; clear hb ux_0 ux_1 ux_2 uy_0 uy_1 uy_2 uz_0 uz_1 uz_2; obtain ⟨ux_0,ux_1,ux_2,uy_0,uy_1,uy_2,uz_0,uz_1,uz_2⟩ := csr _ acc)
        | (go_at_call 24; (with_reducible refine (add_int 20 (by decide) (by decide) _ _ (X * Y) (X * Z) r7 s5 s6 Bs5 Bs6).mono ?_); rintro e r8 ⟨vs7,rfl,s7,hb⟩; obtain ⟨bs7,xs7,ps7,ls7,cs7,rfl⟩ := s7.shape; replace acc := nx acc hb; replace s4 := s4.below hb; clear hb s5 s6 ux_0 ux_1 ux_2 uy_0 uy_1 uy_2 uz_0 uz_1 uz_2; obtain ⟨ux_0,ux_1,ux_2,uy_0,uy_1,uy_2,uz_0,uz_1,uz_2⟩ := csr _ acc)
        | (go_at_call 30; (with_reducible refine (wcmp_alike _ _ (X * (Y + Z)) ((X * Y) + (X * Z)) r8 s4 s7 E2).mono ?_); rintro e r9 ⟨rfl,hb⟩; replace acc := nx acc hb; clear hb s4 s7 ux_0 ux_1 ux_2 uy_0 uy_1 uy_2 uz_0 uz_1 uz_2; obtain ⟨ux_0,ux_1,ux_2,uy_0,uy_1,uy_2,uz_0,uz_1,uz_2⟩ := csr _ acc)
        | (go_at_call 26; (with_reducible refine (sub_int 20 (by decide) (by decide) _ _ X Y r9 (hx.below acc) (hy.below acc) Bhx Bhy).mono ?_); rintro e r10 ⟨vs8,rfl,s8,hb⟩; obtain ⟨bs8,xs8,ps8,ls8,cs8,rfl⟩ := s8.shape; replace acc := nx acc hb; clear hb ux_0 ux_1 ux_2 uy_0 uy_1 uy_2 uz_0 uz_1 uz_2; obtain ⟨ux_0,ux_1,ux_2,uy_0,uy_1,uy_2,uz_0,uz_1,uz_2⟩ := csr _ acc)
        | (go_at_call 24; (with_reducible refine (add_int 20 (by decide) (by decide) _ _ (X - Y) Y r10 s8 (hy.below acc) Bs8 Bhy).mono ?_); rintro e r11 ⟨vs9,rfl,s9,hb⟩; obtain ⟨bs9,xs9,ps9,ls9,cs9,rfl⟩ := s9.shape; replace acc := nx acc hb; clear hb s8 ux_0 ux_1 ux_2 uy_0 uy_1 uy_2 uz_0 uz_1 uz_2; obtain ⟨ux_0,ux_1,ux_2,uy_0,uy_1,uy_2,uz_0,uz_1,uz_2⟩ := csr _ acc)
        | (go_at_call 30; (with_reducible refine (wcmp_alike _ _ ((X - Y) + Y) X r11 s9 (hx.below acc) E3).mono ?_); rintro e r12 ⟨rfl,hb⟩; replace acc := nx acc hb; clear hb s9 ux_0 ux_1 ux_2 uy_0 uy_1 uy_2 uz_0 uz_1 uz_2; obtain ⟨ux_0,ux_1,ux_2,uy_0,uy_1,uy_2,uz_0,uz_1,uz_2⟩ := csr _ acc)
        | (go_at_call 28; (with_reducible refine (mul_int 20 (by decide) (by decide) _ _ X Y r12 (hx.below acc) (hy.below acc) Bhx Bhy).mono ?_); rintro e r13 ⟨vs10,rfl,s10,hb⟩; obtain ⟨bs10,xs10,ps10,ls10,cs10,rfl⟩ := s10.shape; replace acc := nx acc hb; clear hb ux_0 ux_1 ux_2 uy_0 uy_1 uy_2 uz_0 uz_1 uz_2; obtain ⟨ux_0,ux_1,ux_2,uy_0,uy_1,uy_2,uz_0,uz_1,uz_2⟩ := csr _ acc)
        | (go_at_call 28; (with_reducible refine (mul_int 20 (by decide) (by decide) _ _ (X * Y) Z r13 s10 (hz.below acc) Bs10 Bhz).mono ?_); rintro e r14 ⟨vs11,rfl,s11,hb⟩; obtain ⟨bs11,xs11,ps11,ls11,cs11,rfl⟩ := s11.shape; replace acc := nx acc hb; clear hb s10 ux_0 ux_1 ux_2 uy_0 uy_1 uy_2 uz_0 uz_1 uz_2; obtain ⟨ux_0,ux_1,ux_2,uy_0,uy_1,uy_2,uz_0,uz_1,uz_2⟩ := csr _ acc)
        | (go_at_call 28; (with_reducible refine (mul_int 20 (by decide) (by decide) _ _ Z Y r14 (hz.below acc) (hy.below acc) Bhz Bhy).mono ?_); rintro e r15 ⟨vs12,rfl,s12,hb⟩; obtain ⟨bs12,xs12,ps12,ls12,cs12,rfl⟩ := s12.shape; replace acc := nx acc hb; replace s11 := s11.below hb; clear hb ux_0 ux_1 ux_2 uy_0 uy_1 uy_2 uz_0 uz_1 uz_2; obtain ⟨ux_0,ux_1,ux_2,uy_0,uy_1,uy_2,uz_0,uz_1,uz_2⟩ := csr _ acc)
        | (go_at_call 28; (with_reducible refine (mul_int 20 (by decide) (by decide) _ _ (Z * Y) X r15 s12 (hx.below acc) Bs12 Bhx).mono ?_); rintro e r16 ⟨vs13,rfl,s13,hb⟩; obtain ⟨bs13,xs13,ps13,ls13,cs13,rfl⟩ := s13.shape; replace acc := nx acc hb; replace s11 := s11.below hb; clear hb s12 ux_0 ux_1 ux_2 uy_0 uy_1 uy_2 uz_0 uz_1 uz_2; obtain ⟨ux_0,ux_1,ux_2,uy_0,uy_1,uy_2,uz_0,uz_1,uz_2⟩ := csr _ acc)
        | (go_at_call 30; (with_reducible refine (wcmp_alike _ _ ((X * Y) * Z) ((Z * Y) * X) r16 s11 s13 E4).mono ?_); rintro e r17 ⟨rfl,hb⟩; replace acc := nx acc hb; clear hb s11 s13 ux_0 ux_1 ux_2 uy_0 uy_1 uy_2 uz_0 uz_1 uz_2; obtain ⟨ux_0,ux_1,ux_2,uy_0,uy_1,uy_2,uz_0,uz_1,uz_2⟩ := csr _ acc)
        | (go_at_call 12; (with_reducible refine (neg_int _ X r17 (hx.below acc)).mono ?_); rintro e r18 ⟨vs14,rfl,s14,hb⟩; obtain ⟨bs14,xs14,ps14,ls14,cs14,rfl⟩ := s14.shape; replace acc := nx acc hb; clear hb ux_0 ux_1 ux_2 uy_0 uy_1 uy_2 uz_0 uz_1 uz_2; obtain ⟨ux_0,ux_1,ux_2,uy_0,uy_1,uy_2,uz_0,uz_1,uz_2⟩ := csr _ acc)
        | (go_at_call 12; (with_reducible refine (neg_int _ (-X) r18 s14).mono ?_); rintro e r19 ⟨vs15,rfl,s15,hb⟩; obtain ⟨bs15,xs15,ps15,ls15,cs15,rfl⟩ := s15.shape; replace acc := nx acc hb; clear hb s14 ux_0 ux_1 ux_2 uy_0 uy_1 uy_2 uz_0 uz_1 uz_2; obtain ⟨ux_0,ux_1,ux_2,uy_0,uy_1,uy_2,uz_0,uz_1,uz_2⟩ := csr _ acc)
        | (go_at_call 30; (with_reducible refine (wcmp_alike _ _ (-(-X)) X r19 s15 (hx.below acc) E5).mono ?_); rintro e r20 ⟨rfl,hb⟩; replace acc := nx acc hb; clear hb s15 ux_0 ux_1 ux_2 uy_0 uy_1 uy_2 uz_0 uz_1 uz_2; obtain ⟨ux_0,ux_1,ux_2,uy_0,uy_1,uy_2,uz_0,uz_1,uz_2⟩ := csr _ acc)
        | (go_at_call 17; (with_reducible refine (sign_s _ Y _ HS r20 (hy.below acc)).mono ?_); rintro e r21 ⟨rfl,hb⟩; replace acc := nx acc hb; clear hb ux_0 ux_1 ux_2 uy_0 uy_1 uy_2 uz_0 uz_1 uz_2; obtain ⟨ux_0,ux_1,ux_2,uy_0,uy_1,uy_2,uz_0,uz_1,uz_2⟩ := csr _ acc))
    all_goals
      replace hx := hx.below acc
      replace hy := hy.below acc
      replace ux := ux.below acc ux.lt
      replace uy := uy.below acc uy.lt
      replace hz := hz.below acc
      replace uz := uz.below acc uz.lt
      replace hq := hq.below acc
      replace hr := hr.below acc
      replace uq := uq.below acc uq.lt
      replace ur := ur.below acc ur.lt
      replace hBw := hBw.trans (acc.mono hBw.size)
      clear acc ux_0 ux_1 ux_2 uy_0 uy_1 uy_2 uz_0 uz_1 uz_2 csr
      go_wp2_with fail
      by_cases hR : rD X Y = 0
      · have HR := HR0 hR
        clear hR HR0 HR1
        have zux := ux.lt
        have zuy := uy.lt
        have zuq := uq.lt
        have zur := ur.lt
        have acc := Below.refl r21.heap.size r21
        have cst : ∀ w',Below r21.heap.size r21 w' → w'.cell? ⟨aM1,0,none⟩ = some (.bool bx) ∧ w'.cell? ⟨aM1,1,none⟩ = some (.int .u64 xx) ∧ w'.cell? ⟨aM1,2,none⟩ = some (.slice px lx cx) ∧ w'.cell? ⟨aM1 + 1,0,none⟩ = some (.bool by0) ∧ w'.cell? ⟨aM1 + 1,1,none⟩ = some (.int .u64 xy) ∧ w'.cell? ⟨aM1 + 1,2,none⟩ = some (.slice py ly cy) ∧ w'.cell? ⟨aM3,0,none⟩ = some (.bool bq) ∧ w'.cell? ⟨aM3,1,none⟩ = some (.int .u64 xq) ∧ w'.cell? ⟨aM3,2,none⟩ = some (.slice pq lq cq) ∧ w'.cell? ⟨aM3 + 1,0,none⟩ = some (.bool br) ∧ w'.cell? ⟨aM3 + 1,1,none⟩ = some (.int .u64 xr) ∧ w'.cell? ⟨aM3 + 1,2,none⟩ = some (.slice pr lr cr) := fun w' acc => ⟨(ux.below acc zux).cell0,(ux.below acc zux).cell1,(ux.below acc zux).cell2,(uy.below acc zuy).cell0,(uy.below acc zuy).cell1,(uy.below acc zuy).cell2,(uq.below acc zuq).cell0,(uq.below acc zuq).cell1,(uq.below acc zuq).cell2,(ur.below acc zur).cell0,(ur.below acc zur).cell1,(ur.below acc zur).cell2⟩
        obtain ⟨ux_0,ux_1,ux_2,uy_0,uy_1,uy_2,uq_0,uq_1,uq_2,ur_0,ur_1,ur_2⟩ := cst _ acc
        refine wp_region_held_drew (S := fun w' => w'.cell? ⟨aM1,0,none⟩ = some (.bool bx) ∧ w'.cell? ⟨aM1,1,none⟩ = some (.int .u64 xx) ∧ w'.cell? ⟨aM1,2,none⟩ = some (.slice px lx cx) ∧ w'.cell? ⟨aM1 + 1,0,none⟩ = some (.bool by0) ∧ w'.cell? ⟨aM1 + 1,1,none⟩ = some (.int .u64 xy) ∧ w'.cell? ⟨aM1 + 1,2,none⟩ = some (.slice py ly cy) ∧ w'.cell? ⟨aM3,0,none⟩ = some (.bool bq) ∧ w'.cell? ⟨aM3,1,none⟩ = some (.int .u64 xq) ∧ w'.cell? ⟨aM3,2,none⟩ = some (.slice pq lq cq) ∧ w'.cell? ⟨aM3 + 1,0,none⟩ = some (.bool br) ∧ w'.cell? ⟨aM3 + 1,1,none⟩ = some (.int .u64 xr) ∧ w'.cell? ⟨aM3 + 1,2,none⟩ = some (.slice pr lr cr)) (by kernel_rfl) ?_ (fun hH0 => ?_)
        · (try dsimp only); first | with_reducible exact cst _ acc | with_reducible exact cst _ acc.drew
        refine wpAnyH_take (i := 0) (oi := { dst := some 116,op := Op.move (Operand.tmp 21),type := 4,pos := "law.go:113",after := #[],guard := none }) (v := .bool true) rfl (by kernel_rfl) (by kernel_rfl) (by kernel_rfl) (fun _ _ _ h => h) (Or.inl ⟨by rfl,?_⟩) (by assumption) ?_
        · (intro w hSw; (try dsimp only at hSw); go_simp) <;> (try with_reducible rfl)
        try simp only [Act.put,List.setIfInBounds_toArray,List.set_cons_zero,List.set_cons_succ]
        refine wpAnyH_take (i := 1) (oi := { dst := some 117,op := Op.unOp UnOp.not 4 (Operand.tmp 116),type := 4,pos := "law.go:113",after := #[{ on := 0,ground := Ground.data }],guard := none }) (v := .bool false) rfl (by kernel_rfl) (by kernel_rfl) (by kernel_rfl) (fun _ _ _ h => h) (Or.inl ⟨by rfl,?_⟩) (by assumption) ?_
        · (intro w hSw; (try dsimp only at hSw); go_simp) <;> (try with_reducible rfl)
        try simp only [Act.put,List.setIfInBounds_toArray,List.set_cons_zero,List.set_cons_succ]
        refine wpAnyH_take (i := 2) (oi := { dst := some 118,op := Op.move (Operand.tmp 117),type := 4,pos := "law.go:113",after := #[{ on := 1,ground := Ground.data }],guard := none }) (v := .bool false) rfl (by kernel_rfl) (by kernel_rfl) (by kernel_rfl) (fun _ _ _ h => h) (Or.inl ⟨by rfl,?_⟩) (by assumption) ?_
        · (intro w hSw; (try dsimp only at hSw); go_simp) <;> (try with_reducible rfl)
        try simp only [Act.put,List.setIfInBounds_toArray,List.set_cons_zero,List.set_cons_succ]
        refine wpAnyH_take (i := 3) (oi := { dst := some 119,op := Op.load 27 (Operand.tmp 19),type := 27,pos := "law.go:113",after := #[{ on := 2,ground := Ground.guard }],guard := some (2,false) }) (v := .agg #[.bool bq,.int .u64 xq,.slice pq lq cq]) rfl (by kernel_rfl) (by kernel_rfl) (by kernel_rfl) (fun _ _ _ h => h) (Or.inl ⟨by rfl,?_⟩) (by assumption) ?_
        · (intro w hSw; (try dsimp only at hSw); go_simp) <;> (try with_reducible rfl)
        try simp only [Act.put,List.setIfInBounds_toArray,List.set_cons_zero,List.set_cons_succ]
        refine wpAnyH_take (i := 4) (oi := { dst := some 120,op := Op.load 27 (Operand.tmp 12),type := 27,pos := "law.go:113",after := #[{ on := 2,ground := Ground.guard }],guard := some (2,false) }) (v := .agg #[.bool by0,.int .u64 xy,.slice py ly cy]) rfl (by kernel_rfl) (by kernel_rfl) (by kernel_rfl) (fun _ _ _ h => h) (Or.inl ⟨by rfl,?_⟩) (by assumption) ?_
        · (intro w hSw; (try dsimp only at hSw); go_simp) <;> (try with_reducible rfl)
        try simp only [Act.put,List.setIfInBounds_toArray,List.set_cons_zero,List.set_cons_succ]
        refine wpAnyH_take (i := 6) (oi := { dst := some 122,op := Op.load 27 (Operand.tmp 20),type := 27,pos := "law.go:113",after := #[{ on := 2,ground := Ground.guard }],guard := some (2,false) }) (v := .agg #[.bool br,.int .u64 xr,.slice pr lr cr]) rfl (by kernel_rfl) (by kernel_rfl) (by kernel_rfl) (fun _ _ _ h => h) (Or.inl ⟨by rfl,?_⟩) (by assumption) ?_
        · (intro w hSw; (try dsimp only at hSw); go_simp) <;> (try with_reducible rfl)
        try simp only [Act.put,List.setIfInBounds_toArray,List.set_cons_zero,List.set_cons_succ]
        refine wpAnyH_take (i := 8) (oi := { dst := some 124,op := Op.load 27 (Operand.tmp 11),type := 27,pos := "law.go:113",after := #[{ on := 2,ground := Ground.guard }],guard := some (2,false) }) (v := .agg #[.bool bx,.int .u64 xx,.slice px lx cx]) rfl (by kernel_rfl) (by kernel_rfl) (by kernel_rfl) (fun _ _ _ h => h) (Or.inl ⟨by rfl,?_⟩) (by assumption) ?_
        · (intro w hSw; (try dsimp only at hSw); go_simp) <;> (try with_reducible rfl)
        try simp only [Act.put,List.setIfInBounds_toArray,List.set_cons_zero,List.set_cons_succ]
        refine wpAnyH_ready (rs := [5]) (by kernel_rfl) (by simp) ?_
        refine AllReadyH.cons (o := { dst := some 121,op := Op.call { callee := Callee.value (Operand.func 28),args := #[Operand.tmp 119,Operand.tmp 120],argTypes := #[27,27] },type := 27,pos := "law.go:113",after := #[{ on := 3,ground := Ground.data },{ on := 4,ground := Ground.data },{ on := 2,ground := Ground.chain },{ on := 2,ground := Ground.guard }],guard := some (2,false) }) rfl (fun K hK => ?_) AllReadyH.nil
        go_simp
        go_at_call 28
        have q := mul_int 20 (by decide) (by decide) _ _ (qD X Y) Y r21.drew (hq.below acc.drew) (hy.below acc.drew) Bhq Bhy
        (with_reducible refine q.mono ?_); clear q
        rintro e t0 ⟨vm1,rfl,m1,hb⟩
        obtain ⟨bm1,xm1,pm1,lm1,cm1,rfl⟩ := m1.shape
        (first | replace hb : Below r21.heap.size r21 t0 := hb | replace hb := below_undrew (w := r21) hb)
        replace acc := below_acc acc acc.size hb
        clear hb ux_0 ux_1 ux_2 uy_0 uy_1 uy_2 uq_0 uq_1 uq_2 ur_0 ur_1 ur_2
        obtain ⟨ux_0,ux_1,ux_2,uy_0,uy_1,uy_2,uq_0,uq_1,uq_2,ur_0,ur_1,ur_2⟩ := cst _ acc
        go_wp2_with fail
        refine hK.out _ _ ?_ (fun hH6 => ?_)
        · (try dsimp only); with_reducible exact cst _ acc
        clear hK K
        try simp only [Act.put,List.setIfInBounds_toArray,List.set_cons_zero,List.set_cons_succ]
        refine wpAnyH_ready (rs := [7]) (by kernel_rfl) (by simp) ?_
        refine AllReadyH.cons (o := { dst := some 123,op := Op.call { callee := Callee.value (Operand.func 24),args := #[Operand.tmp 121,Operand.tmp 122],argTypes := #[27,27] },type := 27,pos := "law.go:113",after := #[{ on := 5,ground := Ground.data },{ on := 6,ground := Ground.data },{ on := 5,ground := Ground.chain },{ on := 2,ground := Ground.guard }],guard := some (2,false) }) rfl (fun K hK => ?_) AllReadyH.nil
        go_simp
        go_at_call 24
        have q := add_int 20 (by decide) (by decide) _ _ ((qD X Y) * Y) (rD X Y) t0 m1 (hr.below acc) Bm1 Bhr
        (with_reducible refine q.mono ?_); clear q
        rintro e t1 ⟨vm2,rfl,m2,hb⟩
        obtain ⟨bm2,xm2,pm2,lm2,cm2,rfl⟩ := m2.shape
        (first | replace hb : Below t0.heap.size t0 t1 := hb | replace hb := below_undrew (w := t0) hb)
        replace acc := below_acc acc acc.size hb
        clear hb m1 ux_0 ux_1 ux_2 uy_0 uy_1 uy_2 uq_0 uq_1 uq_2 ur_0 ur_1 ur_2
        obtain ⟨ux_0,ux_1,ux_2,uy_0,uy_1,uy_2,uq_0,uq_1,uq_2,ur_0,ur_1,ur_2⟩ := cst _ acc
        go_wp2_with fail
        refine hK.out _ _ ?_ (fun hH8 => ?_)
        · (try dsimp only); with_reducible exact cst _ acc
        clear hK K
        try simp only [Act.put,List.setIfInBounds_toArray,List.set_cons_zero,List.set_cons_succ]
        refine wpAnyH_ready (rs := [9]) (by kernel_rfl) (by simp) ?_
        refine AllReadyH.cons (o := { dst := some 125,op := Op.call { callee := Callee.value (Operand.func 30),args := #[Operand.tmp 123,Operand.tmp 124],argTypes := #[27,27] },type := 3,pos := "law.go:113",after := #[{ on := 7,ground := Ground.data },{ on := 8,ground := Ground.data },{ on := 7,ground := Ground.chain },{ on := 2,ground := Ground.guard }],guard := some (2,false) }) rfl (fun K hK => ?_) AllReadyH.nil
        go_simp
        go_at_call 30
        have q := wcmp_alike _ _ (((qD X Y) * Y) + (rD X Y)) X t1 m2 (hx.below acc) E6
        (with_reducible refine q.mono ?_); clear q
        rintro e t2 ⟨rfl,hb⟩
        (first | replace hb : Below t1.heap.size t1 t2 := hb | replace hb := below_undrew (w := t1) hb)
        replace acc := below_acc acc acc.size hb
        clear hb m2 ux_0 ux_1 ux_2 uy_0 uy_1 uy_2 uq_0 uq_1 uq_2 ur_0 ur_1 ur_2
        obtain ⟨ux_0,ux_1,ux_2,uy_0,uy_1,uy_2,uq_0,uq_1,uq_2,ur_0,ur_1,ur_2⟩ := cst _ acc
        go_wp2_with fail
        refine hK.out _ _ ?_ (fun hH10 => ?_)
        · (try dsimp only); with_reducible exact cst _ acc
        clear hK K
        try simp only [Act.put,List.setIfInBounds_toArray,List.set_cons_zero,List.set_cons_succ]
        refine wpAnyH_take (i := 10) (oi := { dst := some 126,op := Op.binOp BinOp.eql 3 (Operand.tmp 125) (Operand.const (Value.int IntKind.i64 0)) 3,type := 4,pos := "law.go:113",after := #[{ on := 9,ground := Ground.data },{ on := 2,ground := Ground.guard }],guard := some (2,false) }) (v := .bool true) rfl (by kernel_rfl) (by kernel_rfl) (by kernel_rfl) (fun _ _ _ h => h) (Or.inl ⟨by rfl,?_⟩) (by assumption) ?_
        · (intro w hSw; (try dsimp only at hSw); go_simp) <;> (try with_reducible rfl)
        try simp only [Act.put,List.setIfInBounds_toArray,List.set_cons_zero,List.set_cons_succ]
        refine wpAnyH_take (i := 11) (oi := { dst := some 127,op := Op.move (Operand.tmp 126),type := 4,pos := "law.go:113",after := #[{ on := 10,ground := Ground.data },{ on := 9,ground := Ground.chain },{ on := 2,ground := Ground.guard }],guard := some (2,false) }) (v := .bool true) rfl (by kernel_rfl) (by kernel_rfl) (by kernel_rfl) (fun _ _ _ h => h) (Or.inl ⟨by rfl,?_⟩) (by assumption) ?_
        · (intro w hSw; (try dsimp only at hSw); go_simp) <;> (try with_reducible rfl)
        try simp only [Act.put,List.setIfInBounds_toArray,List.set_cons_zero,List.set_cons_succ]
        refine wpAnyH_take (i := 12) (oi := { dst := some 128,op := Op.load 27 (Operand.tmp 20),type := 27,pos := "law.go:113",after := #[{ on := 11,ground := Ground.guard }],guard := some (11,true) }) (v := .agg #[.bool br,.int .u64 xr,.slice pr lr cr]) rfl (by kernel_rfl) (by kernel_rfl) (by kernel_rfl) (fun _ _ _ h => h) (Or.inl ⟨by rfl,?_⟩) (by assumption) ?_
        · (intro w hSw; (try dsimp only at hSw); go_simp) <;> (try with_reducible rfl)
        try simp only [Act.put,List.setIfInBounds_toArray,List.set_cons_zero,List.set_cons_succ]
        refine wpAnyH_ready (rs := [13]) (by kernel_rfl) (by simp) ?_
        refine AllReadyH.cons (o := { dst := some 129,op := Op.call { callee := Callee.value (Operand.func 17),args := #[Operand.tmp 128],argTypes := #[27] },type := 3,pos := "law.go:113",after := #[{ on := 12,ground := Ground.data },{ on := 11,ground := Ground.chain },{ on := 11,ground := Ground.guard }],guard := some (11,true) }) rfl (fun K hK => ?_) AllReadyH.nil
        go_simp
        go_at_call 17
        have q := sign_s _ (rD X Y) _ HR t2 (hr.below acc)
        (with_reducible refine q.mono ?_); clear q
        rintro e t3 ⟨rfl,hb⟩
        (first | replace hb : Below t2.heap.size t2 t3 := hb | replace hb := below_undrew (w := t2) hb)
        replace acc := below_acc acc acc.size hb
        clear hb ux_0 ux_1 ux_2 uy_0 uy_1 uy_2 uq_0 uq_1 uq_2 ur_0 ur_1 ur_2
        obtain ⟨ux_0,ux_1,ux_2,uy_0,uy_1,uy_2,uq_0,uq_1,uq_2,ur_0,ur_1,ur_2⟩ := cst _ acc
        go_wp2_with fail
        refine hK.out _ _ ?_ (fun hH14 => ?_)
        · (try dsimp only); with_reducible exact cst _ acc
        clear hK K
        try simp only [Act.put,List.setIfInBounds_toArray,List.set_cons_zero,List.set_cons_succ]
        refine wpAnyH_take (i := 14) (oi := { dst := some 130,op := Op.binOp BinOp.eql 3 (Operand.tmp 129) (Operand.const (Value.int IntKind.i64 0)) 3,type := 4,pos := "law.go:113",after := #[{ on := 13,ground := Ground.data },{ on := 11,ground := Ground.guard }],guard := some (11,true) }) (v := .bool true) rfl (by kernel_rfl) (by kernel_rfl) (by kernel_rfl) (fun _ _ _ h => h) (Or.inl ⟨by rfl,?_⟩) (by assumption) ?_
        · (intro w hSw; (try dsimp only at hSw); go_simp) <;> (try with_reducible rfl)
        try simp only [Act.put,List.setIfInBounds_toArray,List.set_cons_zero,List.set_cons_succ]
        refine wpAnyH_take (i := 15) (oi := { dst := some 131,op := Op.move (Operand.tmp 130),type := 4,pos := "law.go:113",after := #[{ on := 14,ground := Ground.data },{ on := 13,ground := Ground.chain },{ on := 11,ground := Ground.guard }],guard := some (11,true) }) (v := .bool true) rfl (by kernel_rfl) (by kernel_rfl) (by kernel_rfl) (fun _ _ _ h => h) (Or.inl ⟨by rfl,?_⟩) (by assumption) ?_
        · (intro w hSw; (try dsimp only at hSw); go_simp) <;> (try with_reducible rfl)
        try simp only [Act.put,List.setIfInBounds_toArray,List.set_cons_zero,List.set_cons_succ]
        refine wpAnyH_take (i := 16) (oi := { dst := some 132,op := Op.load 27 (Operand.tmp 20),type := 27,pos := "law.go:113",after := #[{ on := 15,ground := Ground.guard }],guard := some (15,false) }) (v := undef) rfl (by kernel_rfl) (by kernel_rfl) (by kernel_rfl) (fun _ _ _ h => h) (Or.inr ⟨by rfl,rfl⟩) (by assumption) ?_
        try simp only [Act.put,List.setIfInBounds_toArray,List.set_cons_zero,List.set_cons_succ]
        refine wpAnyH_take (i := 18) (oi := { dst := some 134,op := Op.load 27 (Operand.tmp 12),type := 27,pos := "law.go:113",after := #[{ on := 15,ground := Ground.guard }],guard := some (15,false) }) (v := undef) rfl (by kernel_rfl) (by kernel_rfl) (by kernel_rfl) (fun _ _ _ h => h) (Or.inr ⟨by rfl,rfl⟩) (by assumption) ?_
        try simp only [Act.put,List.setIfInBounds_toArray,List.set_cons_zero,List.set_cons_succ]
        refine wpAnyH_ready (rs := [17]) (by kernel_rfl) (by simp) ?_
        refine AllReadyH.cons (o := { dst := some 133,op := Op.call { callee := Callee.value (Operand.func 17),args := #[Operand.tmp 132],argTypes := #[27] },type := 3,pos := "law.go:113",after := #[{ on := 16,ground := Ground.data },{ on := 15,ground := Ground.chain },{ on := 15,ground := Ground.guard }],guard := some (15,false) }) rfl (fun K hK => ?_) AllReadyH.nil
        (first | rw [if_neg (fun h => Bool.noConfusion (show false = true from h))] | (go_simp; try rw [if_neg (fun h => by cases h)]))
        refine hK.out _ _ (by assumption) (fun hH18 => ?_)
        clear hK K
        try simp only [Act.put,List.setIfInBounds_toArray,List.set_cons_zero,List.set_cons_succ]
        refine wpAnyH_ready (rs := [19]) (by kernel_rfl) (by simp) ?_
        refine AllReadyH.cons (o := { dst := some 135,op := Op.call { callee := Callee.value (Operand.func 17),args := #[Operand.tmp 134],argTypes := #[27] },type := 3,pos := "law.go:113",after := #[{ on := 18,ground := Ground.data },{ on := 17,ground := Ground.chain },{ on := 15,ground := Ground.guard }],guard := some (15,false) }) rfl (fun K hK => ?_) AllReadyH.nil
        (first | rw [if_neg (fun h => Bool.noConfusion (show false = true from h))] | (go_simp; try rw [if_neg (fun h => by cases h)]))
        refine hK.out _ _ (by assumption) (fun hH20 => ?_)
        clear hK K
        try simp only [Act.put,List.setIfInBounds_toArray,List.set_cons_zero,List.set_cons_succ]
        refine wpAnyH_take (i := 20) (oi := { dst := some 136,op := Op.binOp BinOp.eql 3 (Operand.tmp 133) (Operand.tmp 135) 3,type := 4,pos := "law.go:113",after := #[{ on := 17,ground := Ground.data },{ on := 19,ground := Ground.data },{ on := 15,ground := Ground.guard }],guard := some (15,false) }) (v := undef) rfl (by kernel_rfl) (by kernel_rfl) (by kernel_rfl) (fun _ _ _ h => h) (Or.inr ⟨by rfl,rfl⟩) (by assumption) ?_
        try simp only [Act.put,List.setIfInBounds_toArray,List.set_cons_zero,List.set_cons_succ]
        refine wpAnyH_take (i := 21) (oi := { dst := some 137,op := Op.pick (Operand.tmp 131) (Operand.const (Value.bool true)) (Operand.tmp 136),type := 4,pos := "law.go:113",after := #[{ on := 15,ground := Ground.data },{ on := 20,ground := Ground.data },{ on := 11,ground := Ground.guard }],guard := some (11,true) }) (v := .bool true) rfl (by kernel_rfl) (by kernel_rfl) (by kernel_rfl) (fun _ _ _ h => h) (Or.inl ⟨by rfl,?_⟩) (by assumption) ?_
        · (intro w hSw; (try dsimp only at hSw); go_simp) <;> (try with_reducible rfl)
        try simp only [Act.put,List.setIfInBounds_toArray,List.set_cons_zero,List.set_cons_succ]
        refine wpAnyH_take (i := 22) (oi := { dst := some 138,op := Op.pick (Operand.tmp 127) (Operand.tmp 137) (Operand.const (Value.bool false)),type := 4,pos := "law.go:113",after := #[{ on := 11,ground := Ground.data },{ on := 21,ground := Ground.data },{ on := 2,ground := Ground.guard }],guard := some (2,false) }) (v := .bool true) rfl (by kernel_rfl) (by kernel_rfl) (by kernel_rfl) (fun _ _ _ h => h) (Or.inl ⟨by rfl,?_⟩) (by assumption) ?_
        · (intro w hSw; (try dsimp only at hSw); go_simp) <;> (try with_reducible rfl)
        try simp only [Act.put,List.setIfInBounds_toArray,List.set_cons_zero,List.set_cons_succ]
        refine wpAnyH_take (i := 23) (oi := { dst := some 139,op := Op.move (Operand.tmp 138),type := 4,pos := "law.go:113",after := #[{ on := 22,ground := Ground.data },{ on := 19,ground := Ground.chain },{ on := 2,ground := Ground.guard }],guard := some (2,false) }) (v := .bool true) rfl (by kernel_rfl) (by kernel_rfl) (by kernel_rfl) (fun _ _ _ h => h) (Or.inl ⟨by rfl,?_⟩) (by assumption) ?_
        · (intro w hSw; (try dsimp only at hSw); go_simp) <;> (try with_reducible rfl)
        try simp only [Act.put,List.setIfInBounds_toArray,List.set_cons_zero,List.set_cons_succ]
        refine wpAnyH_take (i := 24) (oi := { dst := some 140,op := Op.load 27 (Operand.tmp 20),type := 27,pos := "law.go:113",after := #[{ on := 23,ground := Ground.guard }],guard := some (23,true) }) (v := .agg #[.bool br,.int .u64 xr,.slice pr lr cr]) rfl (by kernel_rfl) (by kernel_rfl) (by kernel_rfl) (fun _ _ _ h => h) (Or.inl ⟨by rfl,?_⟩) (by assumption) ?_
        · (intro w hSw; (try dsimp only at hSw); go_simp) <;> (try with_reducible rfl)
        try simp only [Act.put,List.setIfInBounds_toArray,List.set_cons_zero,List.set_cons_succ]
        refine wpAnyH_take (i := 26) (oi := { dst := some 142,op := Op.load 27 (Operand.tmp 12),type := 27,pos := "law.go:113",after := #[{ on := 23,ground := Ground.guard }],guard := some (23,true) }) (v := .agg #[.bool by0,.int .u64 xy,.slice py ly cy]) rfl (by kernel_rfl) (by kernel_rfl) (by kernel_rfl) (fun _ _ _ h => h) (Or.inl ⟨by rfl,?_⟩) (by assumption) ?_
        · (intro w hSw; (try dsimp only at hSw); go_simp) <;> (try with_reducible rfl)
        try simp only [Act.put,List.setIfInBounds_toArray,List.set_cons_zero,List.set_cons_succ]
        refine wpAnyH_ready (rs := [25]) (by kernel_rfl) (by simp) ?_
        refine AllReadyH.cons (o := { dst := some 141,op := Op.call { callee := Callee.value (Operand.func 21),args := #[Operand.tmp 140],argTypes := #[27] },type := 25,pos := "law.go:113",after := #[{ on := 24,ground := Ground.data },{ on := 23,ground := Ground.chain },{ on := 23,ground := Ground.guard }],guard := some (23,true) }) rfl (fun K hK => ?_) AllReadyH.nil
        go_simp
        go_at_call 21
        have q := abs_int _ (rD X Y) t3 (hr.below acc)
        (with_reducible refine q.mono ?_); clear q
        rintro e t4 ⟨vk1,rfl,k1,hb⟩
        obtain ⟨xk1,pk1,lk1,ck1,rfl⟩ := k1.shape
        (first | replace hb : Below t3.heap.size t3 t4 := hb | replace hb := below_undrew (w := t3) hb)
        replace acc := below_acc acc acc.size hb
        clear hb ux_0 ux_1 ux_2 uy_0 uy_1 uy_2 uq_0 uq_1 uq_2 ur_0 ur_1 ur_2
        obtain ⟨ux_0,ux_1,ux_2,uy_0,uy_1,uy_2,uq_0,uq_1,uq_2,ur_0,ur_1,ur_2⟩ := cst _ acc
        go_wp2_with fail
        refine hK.out _ _ ?_ (fun hH26 => ?_)
        · (try dsimp only); with_reducible exact cst _ acc
        clear hK K
        try simp only [Act.put,List.setIfInBounds_toArray,List.set_cons_zero,List.set_cons_succ]
        refine wpAnyH_ready (rs := [27]) (by kernel_rfl) (by simp) ?_
        refine AllReadyH.cons (o := { dst := some 143,op := Op.call { callee := Callee.value (Operand.func 21),args := #[Operand.tmp 142],argTypes := #[27] },type := 25,pos := "law.go:113",after := #[{ on := 26,ground := Ground.data },{ on := 25,ground := Ground.chain },{ on := 23,ground := Ground.guard }],guard := some (23,true) }) rfl (fun K hK => ?_) AllReadyH.nil
        go_simp
        go_at_call 21
        have q := abs_int _ Y t4 (hy.below acc)
        (with_reducible refine q.mono ?_); clear q
        rintro e t5 ⟨vk2,rfl,k2,hb⟩
        obtain ⟨xk2,pk2,lk2,ck2,rfl⟩ := k2.shape
        (first | replace hb : Below t4.heap.size t4 t5 := hb | replace hb := below_undrew (w := t4) hb)
        replace acc := below_acc acc acc.size hb
        replace k1 := k1.below hb
        clear hb ux_0 ux_1 ux_2 uy_0 uy_1 uy_2 uq_0 uq_1 uq_2 ur_0 ur_1 ur_2
        obtain ⟨ux_0,ux_1,ux_2,uy_0,uy_1,uy_2,uq_0,uq_1,uq_2,ur_0,ur_1,ur_2⟩ := cst _ acc
        go_wp2_with fail
        refine hK.out _ _ ?_ (fun hH28 => ?_)
        · (try dsimp only); with_reducible exact cst _ acc
        clear hK K
        try simp only [Act.put,List.setIfInBounds_toArray,List.set_cons_zero,List.set_cons_succ]
        refine wpAnyH_ready (rs := [28]) (by kernel_rfl) (by simp) ?_
        refine AllReadyH.cons (o := { dst := some 144,op := Op.call { callee := Callee.value (Operand.func 36),args := #[Operand.tmp 141,Operand.tmp 143],argTypes := #[25,25] },type := 3,pos := "law.go:113",after := #[{ on := 25,ground := Ground.data },{ on := 27,ground := Ground.data },{ on := 27,ground := Ground.chain },{ on := 23,ground := Ground.guard }],guard := some (23,true) }) rfl (fun K hK => ?_) AllReadyH.nil
        go_simp
        go_at_call 36
        have q := cmp_less _ _ (absI (rD X Y)) (absI Y) t5 k1 k2 E7
        (with_reducible refine q.mono ?_); clear q
        rintro e t6 ⟨rfl,hb⟩
        (first | replace hb : Below t5.heap.size t5 t6 := hb | replace hb := below_undrew (w := t5) hb)
        replace acc := below_acc acc acc.size hb
        clear hb k1 k2 ux_0 ux_1 ux_2 uy_0 uy_1 uy_2 uq_0 uq_1 uq_2 ur_0 ur_1 ur_2
        obtain ⟨ux_0,ux_1,ux_2,uy_0,uy_1,uy_2,uq_0,uq_1,uq_2,ur_0,ur_1,ur_2⟩ := cst _ acc
        go_wp2_with fail
        refine hK.out _ _ ?_ (fun hH29 => ?_)
        · (try dsimp only); with_reducible exact cst _ acc
        clear hK K
        try simp only [Act.put,List.setIfInBounds_toArray,List.set_cons_zero,List.set_cons_succ]
        refine wpAnyH_take (i := 29) (oi := { dst := some 145,op := Op.binOp BinOp.lss 3 (Operand.tmp 144) (Operand.const (Value.int IntKind.i64 0)) 3,type := 4,pos := "law.go:113",after := #[{ on := 28,ground := Ground.data },{ on := 23,ground := Ground.guard }],guard := some (23,true) }) (v := .bool true) rfl (by kernel_rfl) (by kernel_rfl) (by kernel_rfl) (fun _ _ _ h => h) (Or.inl ⟨by rfl,?_⟩) (by assumption) ?_
        · (intro w hSw; (try dsimp only at hSw); go_simp) <;> (try with_reducible rfl)
        try simp only [Act.put,List.setIfInBounds_toArray,List.set_cons_zero,List.set_cons_succ]
        refine wpAnyH_take (i := 30) (oi := { dst := some 146,op := Op.pick (Operand.tmp 139) (Operand.tmp 145) (Operand.const (Value.bool false)),type := 4,pos := "law.go:113",after := #[{ on := 23,ground := Ground.data },{ on := 29,ground := Ground.data },{ on := 2,ground := Ground.guard }],guard := some (2,false) }) (v := .bool true) rfl (by kernel_rfl) (by kernel_rfl) (by kernel_rfl) (fun _ _ _ h => h) (Or.inl ⟨by rfl,?_⟩) (by assumption) ?_
        · (intro w hSw; (try dsimp only at hSw); go_simp) <;> (try with_reducible rfl)
        try simp only [Act.put,List.setIfInBounds_toArray,List.set_cons_zero,List.set_cons_succ]
        refine wpAnyH_take (i := 31) (oi := { dst := some 147,op := Op.pick (Operand.tmp 118) (Operand.const (Value.bool true)) (Operand.tmp 146),type := 4,pos := "law.go:113",after := #[{ on := 2,ground := Ground.data },{ on := 30,ground := Ground.data }],guard := none }) (v := .bool true) rfl (by kernel_rfl) (by kernel_rfl) (by kernel_rfl) (fun _ _ _ h => h) (Or.inl ⟨by rfl,?_⟩) (by assumption) ?_
        · (intro w hSw; (try dsimp only at hSw); go_simp) <;> (try with_reducible rfl)
        try simp only [Act.put,List.setIfInBounds_toArray,List.set_cons_zero,List.set_cons_succ]
        refine wpAnyH_take (i := 32) (oi := { dst := some 10,op := Op.assign (Operand.tmp 147),type := 4,pos := "law.go:113",after := #[{ on := 31,ground := Ground.data },{ on := 28,ground := Ground.chain },{ on := 0,ground := Ground.phase },{ on := 1,ground := Ground.phase },{ on := 2,ground := Ground.phase },{ on := 3,ground := Ground.phase },{ on := 4,ground := Ground.phase },{ on := 5,ground := Ground.phase },{ on := 6,ground := Ground.phase },{ on := 7,ground := Ground.phase },{ on := 8,ground := Ground.phase },{ on := 9,ground := Ground.phase },{ on := 10,ground := Ground.phase },{ on := 11,ground := Ground.phase },{ on := 12,ground := Ground.phase },{ on := 13,ground := Ground.phase },{ on := 14,ground := Ground.phase },{ on := 15,ground := Ground.phase },{ on := 16,ground := Ground.phase },{ on := 17,ground := Ground.phase },{ on := 18,ground := Ground.phase },{ on := 19,ground := Ground.phase },{ on := 20,ground := Ground.phase },{ on := 21,ground := Ground.phase },{ on := 22,ground := Ground.phase },{ on := 23,ground := Ground.phase },{ on := 24,ground := Ground.phase },{ on := 25,ground := Ground.phase },{ on := 26,ground := Ground.phase },{ on := 27,ground := Ground.phase },{ on := 28,ground := Ground.phase },{ on := 29,ground := Ground.phase },{ on := 30,ground := Ground.phase },{ on := 31,ground := Ground.phase }],guard := none }) (v := .bool true) rfl (by kernel_rfl) (by kernel_rfl) (by kernel_rfl) (fun _ _ _ h => h) (Or.inl ⟨by rfl,?_⟩) (by assumption) ?_
        · (intro w hSw; (try dsimp only at hSw); go_simp) <;> (try with_reducible rfl)
        try simp only [Act.put,List.setIfInBounds_toArray,List.set_cons_zero,List.set_cons_succ]
        refine wpAnyH_done (by kernel_rfl) ?_ _
        replace hx := hx.below acc
        replace hy := hy.below acc
        replace ux := ux.below acc ux.lt
        replace uy := uy.below acc uy.lt
        replace hz := hz.below acc
        replace uz := uz.below acc uz.lt
        replace hq := hq.below acc
        replace hr := hr.below acc
        replace uq := uq.below acc uq.lt
        replace ur := ur.below acc ur.lt
        replace hBw := hBw.trans (acc.mono hBw.size)
        clear acc ux_0 ux_1 ux_2 uy_0 uy_1 uy_2 uq_0 uq_1 uq_2 ur_0 ur_1 ur_2 cst
        go_wp2
        go_ret
        exact ⟨rfl,hBw⟩
      · have HR := HR1 hR
        clear hR HR0 HR1
        have zux := ux.lt
        have zuy := uy.lt
        have zuq := uq.lt
        have zur := ur.lt
        have acc := Below.refl r21.heap.size r21
        have cst : ∀ w',Below r21.heap.size r21 w' → w'.cell? ⟨aM1,0,none⟩ = some (.bool bx) ∧ w'.cell? ⟨aM1,1,none⟩ = some (.int .u64 xx) ∧ w'.cell? ⟨aM1,2,none⟩ = some (.slice px lx cx) ∧ w'.cell? ⟨aM1 + 1,0,none⟩ = some (.bool by0) ∧ w'.cell? ⟨aM1 + 1,1,none⟩ = some (.int .u64 xy) ∧ w'.cell? ⟨aM1 + 1,2,none⟩ = some (.slice py ly cy) ∧ w'.cell? ⟨aM3,0,none⟩ = some (.bool bq) ∧ w'.cell? ⟨aM3,1,none⟩ = some (.int .u64 xq) ∧ w'.cell? ⟨aM3,2,none⟩ = some (.slice pq lq cq) ∧ w'.cell? ⟨aM3 + 1,0,none⟩ = some (.bool br) ∧ w'.cell? ⟨aM3 + 1,1,none⟩ = some (.int .u64 xr) ∧ w'.cell? ⟨aM3 + 1,2,none⟩ = some (.slice pr lr cr) := fun w' acc => ⟨(ux.below acc zux).cell0,(ux.below acc zux).cell1,(ux.below acc zux).cell2,(uy.below acc zuy).cell0,(uy.below acc zuy).cell1,(uy.below acc zuy).cell2,(uq.below acc zuq).cell0,(uq.below acc zuq).cell1,(uq.below acc zuq).cell2,(ur.below acc zur).cell0,(ur.below acc zur).cell1,(ur.below acc zur).cell2⟩
        obtain ⟨ux_0,ux_1,ux_2,uy_0,uy_1,uy_2,uq_0,uq_1,uq_2,ur_0,ur_1,ur_2⟩ := cst _ acc
        go_region_held3 (fun w' => w'.cell? ⟨aM1,0,none⟩ = some (.bool bx) ∧ w'.cell? ⟨aM1,1,none⟩ = some (.int .u64 xx) ∧ w'.cell? ⟨aM1,2,none⟩ = some (.slice px lx cx) ∧ w'.cell? ⟨aM1 + 1,0,none⟩ = some (.bool by0) ∧ w'.cell? ⟨aM1 + 1,1,none⟩ = some (.int .u64 xy) ∧ w'.cell? ⟨aM1 + 1,2,none⟩ = some (.slice py ly cy) ∧ w'.cell? ⟨aM3,0,none⟩ = some (.bool bq) ∧ w'.cell? ⟨aM3,1,none⟩ = some (.int .u64 xq) ∧ w'.cell? ⟨aM3,2,none⟩ = some (.slice pq lq cq) ∧ w'.cell? ⟨aM3 + 1,0,none⟩ = some (.bool br) ∧ w'.cell? ⟨aM3 + 1,1,none⟩ = some (.int .u64 xr) ∧ w'.cell? ⟨aM3 + 1,2,none⟩ = some (.slice pr lr cr))
          (first | with_reducible exact cst _ acc | with_reducible exact cst _ acc.drew)
          (first
            | (go_at_call 28; (first | (have q := mul_int 20 (by decide) (by decide) _ _ (qD X Y) Y r21.drew (hq.below acc.drew) (hy.below acc.drew) Bhq Bhy; (with_reducible refine q.mono ?_); clear q) | (have q := mul_int 20 (by decide) (by decide) _ _ (qD X Y) Y r21 (hq.below acc) (hy.below acc) Bhq Bhy; (with_reducible refine q.mono ?_); clear q)); rintro e t0 ⟨vm1,rfl,m1,hb⟩; obtain ⟨bm1,xm1,pm1,lm1,cm1,rfl⟩ := m1.shape; (first | replace hb : Below r21.heap.size r21 t0 := hb | replace hb := below_undrew (w := r21) hb); replace acc := below_acc acc acc.size hb; clear hb ux_0 ux_1 ux_2 uy_0 uy_1 uy_2 uq_0 uq_1 uq_2 ur_0 ur_1 ur_2; obtain ⟨ux_0,ux_1,ux_2,uy_0,uy_1,uy_2,uq_0,uq_1,uq_2,ur_0,ur_1,ur_2⟩ := cst _ acc)
            | (go_at_call 24; (with_reducible refine (add_int 20 (by decide) (by decide) _ _ ((qD X Y) * Y) (rD X Y) t0 m1 (hr.below acc) Bm1 Bhr).mono ?_); rintro e t1 ⟨vm2,rfl,m2,hb⟩; obtain ⟨bm2,xm2,pm2,lm2,cm2,rfl⟩ := m2.shape; replace acc := nx acc hb; clear hb m1 ux_0 ux_1 ux_2 uy_0 uy_1 uy_2 uq_0 uq_1 uq_2 ur_0 ur_1 ur_2; obtain ⟨ux_0,ux_1,ux_2,uy_0,uy_1,uy_2,uq_0,uq_1,uq_2,ur_0,ur_1,ur_2⟩ := cst _ acc)
            | (go_at_call 30; (with_reducible refine (wcmp_alike _ _ (((qD X Y) * Y) + (rD X Y)) X t1 m2 (hx.below acc) E6).mono ?_); rintro e t2 ⟨rfl,hb⟩; replace acc := nx acc hb; clear hb m2 ux_0 ux_1 ux_2 uy_0 uy_1 uy_2 uq_0 uq_1 uq_2 ur_0 ur_1 ur_2; obtain ⟨ux_0,ux_1,ux_2,uy_0,uy_1,uy_2,uq_0,uq_1,uq_2,ur_0,ur_1,ur_2⟩ := cst _ acc)
            | (go_at_call 17; (with_reducible refine (sign_s _ (rD X Y) _ HR t2 (hr.below acc)).mono ?_); rintro e t3 ⟨rfl,hb⟩; replace acc := nx acc hb; clear hb ux_0 ux_1 ux_2 uy_0 uy_1 uy_2 uq_0 uq_1 uq_2 ur_0 ur_1 ur_2; obtain ⟨ux_0,ux_1,ux_2,uy_0,uy_1,uy_2,uq_0,uq_1,uq_2,ur_0,ur_1,ur_2⟩ := cst _ acc)
            | (go_at_call 17; (with_reducible refine (sign_s _ (rD X Y) _ HR t3 (hr.below acc)).mono ?_); rintro e t4 ⟨rfl,hb⟩; replace acc := nx acc hb; clear hb ux_0 ux_1 ux_2 uy_0 uy_1 uy_2 uq_0 uq_1 uq_2 ur_0 ur_1 ur_2; obtain ⟨ux_0,ux_1,ux_2,uy_0,uy_1,uy_2,uq_0,uq_1,uq_2,ur_0,ur_1,ur_2⟩ := cst _ acc)
            | (go_at_call 17; (with_reducible refine (sign_s _ Y _ HS t4 (hy.below acc)).mono ?_); rintro e t5 ⟨rfl,hb⟩; replace acc := nx acc hb; clear hb ux_0 ux_1 ux_2 uy_0 uy_1 uy_2 uq_0 uq_1 uq_2 ur_0 ur_1 ur_2; obtain ⟨ux_0,ux_1,ux_2,uy_0,uy_1,uy_2,uq_0,uq_1,uq_2,ur_0,ur_1,ur_2⟩ := cst _ acc)
            | (go_at_call 21; (with_reducible refine (abs_int _ (rD X Y) t5 (hr.below acc)).mono ?_); rintro e t6 ⟨vk1,rfl,k1,hb⟩; obtain ⟨xk1,pk1,lk1,ck1,rfl⟩ := k1.shape; replace acc := nx acc hb; clear hb ux_0 ux_1 ux_2 uy_0 uy_1 uy_2 uq_0 uq_1 uq_2 ur_0 ur_1 ur_2; obtain ⟨ux_0,ux_1,ux_2,uy_0,uy_1,uy_2,uq_0,uq_1,uq_2,ur_0,ur_1,ur_2⟩ := cst _ acc)
            | (go_at_call 21; (with_reducible refine (abs_int _ Y t6 (hy.below acc)).mono ?_); rintro e t7 ⟨vk2,rfl,k2,hb⟩; obtain ⟨xk2,pk2,lk2,ck2,rfl⟩ := k2.shape; replace acc := nx acc hb; replace k1 := k1.below hb; clear hb ux_0 ux_1 ux_2 uy_0 uy_1 uy_2 uq_0 uq_1 uq_2 ur_0 ur_1 ur_2; obtain ⟨ux_0,ux_1,ux_2,uy_0,uy_1,uy_2,uq_0,uq_1,uq_2,ur_0,ur_1,ur_2⟩ := cst _ acc)
            | (go_at_call 36; (with_reducible refine (cmp_less _ _ (absI (rD X Y)) (absI Y) t7 k1 k2 E7).mono ?_); rintro e t8 ⟨rfl,hb⟩; replace acc := nx acc hb; clear hb k1 k2 ux_0 ux_1 ux_2 uy_0 uy_1 uy_2 uq_0 uq_1 uq_2 ur_0 ur_1 ur_2; obtain ⟨ux_0,ux_1,ux_2,uy_0,uy_1,uy_2,uq_0,uq_1,uq_2,ur_0,ur_1,ur_2⟩ := cst _ acc))
        all_goals
          replace hx := hx.below acc
          replace hy := hy.below acc
          replace ux := ux.below acc ux.lt
          replace uy := uy.below acc uy.lt
          replace hz := hz.below acc
          replace uz := uz.below acc uz.lt
          replace hq := hq.below acc
          replace hr := hr.below acc
          replace uq := uq.below acc uq.lt
          replace ur := ur.below acc ur.lt
          replace hBw := hBw.trans (acc.mono hBw.size)
          clear acc ux_0 ux_1 ux_2 uy_0 uy_1 uy_2 uq_0 uq_1 uq_2 ur_0 ur_1 ur_2 cst
          go_wp2
          go_ret
          exact ⟨rfl,hBw⟩
end Go.Proofs.YtlkblgpekbeljaaGreatDoor
