/- WholeQuotients: what its walk wants besides. WholeQuotients,walked. (gen_wquot.py) -/
import Derived.Test.YtogildikglomkaaGreatDoorWhoDivR
import Derived.Test.YtogildikglomkaaGreatDoorWhoLaw
import Derived.Test.YtogildikglomkaaGreatDoorBArg
import Derived.Test.YtogildikglomkaaGreatDoorWhoY
namespace Go.Proofs.YtogildikglomkaaGreatDoor
open Go.RowKit
set_option linter.unusedVariables false

theorem intDiv_K (K : Nat) (hK : K ≤ 20000) (hK1 : 1 ≤ K) (u v : Value) (a b : Int) (w : World) (hu : IsR w u a) (hv : IsR w v b) (hb0 : b ≠ 0) (ha : absI a < pw K) (hb : absI b < pw K) : Calls Tryz.prog 23 #[u,v] w (RetRR (qI a b) (rI a b) w) := by
  have h0 := absI_nonneg a
  have hb1 := absI_nonneg b
  have q0 : 0 ≤ absI a / absI b := Int.ediv_nonneg h0 hb1
  have q1 : absI a / absI b ≤ absI a := Int.ediv_le_self _ h0
  obtain ⟨zq,hz⟩ : ∃ zq, (if (decide (a < 0) != decide (b < 0)) = true then -(absI a / absI b) else absI a / absI b) = zq := ⟨_,rfl⟩
  have z1 : absI zq ≤ absI a := by rw [← hz]; clear hz; revert q0 q1; generalize absI a / absI b = n; generalize absI a = m; intro q0 q1; unfold absI; split <;> split <;> omega
  have z2 : absI (zq - 1) ≤ absI a + 1 := by clear hz q0 q1; revert z1; generalize absI a = m; intro z1; unfold absI at *; split at z1 <;> split <;> omega
  have p1 : (1 : Int) ≤ pw K := pw_pos K
  have pK : absI a + 1 < pw (K + 1) := by have : pw (K + 1) = 18446744073709551616 * pw K := rfl; omega
  have up : ∀ {z : Int} {k m : Nat}, k ≤ m → absI z < pw k → absI z < pw m := fun hk h => Int.lt_of_lt_of_le h (pw_mono hk)
  have eL : lpw (2 * (K + 1)) = pw (K + 1) := lpw_pwL _
  have eM : lpw (2 * (K + 1) + 2 * (K + 1)) = pw (2 * (K + 1)) := by rw [show 2 * (K + 1) + 2 * (K + 1) = 2 * (2 * (K + 1)) by omega,lpw_pwL]
  have y1 : absI (zq - 1) < pw (K + 1) := by omega
  have m1 : absI (zq * b) < pw (K + K) := absI_mul_lt (by omega) hb
  have m2 : absI ((zq - 1) * b) < pw ((K + 1) + (K + 1)) := absI_mul_lt y1 (up (by omega) hb)
  have hq : (if (decide (a < 0) != decide (b < 0)) = true ∧ 0 < absI a % absI b then zq - 1 else zq) = qI a b := by
    have hm : 0 ≤ absI a % absI b := Int.emod_nonneg _ (by unfold absI; split <;> omega)
    rw [← hz]
    unfold qI sameI
    cases decide (a < 0) <;> cases decide (b < 0) <;> simp <;> split <;> (try split) <;> omega
  have hr : a - qI a b * b = rI a b := by have := qrI (a := a) hb0; omega
  have h := intDiv_R (2 * (K + 1)) (by omega) u v a b zq (qI a b) w hu hv hb0 (by rw [eL]; exact up (by omega) ha) (by rw [eL]; exact up (by omega) hb) (Lib.hid hz) (by rw [eL]; omega) (by rw [eL]; exact y1)
    (by rw [eL]; exact up (k := K + 1) (Nat.le_refl _) (by have : absI 1 = 1 := rfl; omega)) (by rw [eM]; exact up (by omega) ha) (by rw [eM]; exact up (by omega) m1) (by rw [eM]; exact up (by omega) m2) (Lib.hid hq)
  rw [hr] at h
  exact h
theorem barg_cutQ {w : World} {a : Option Addr} {len cap : Nat} (h : BArg w (.slice a len cap)) (p : Nat) (hp : p ≤ len) : BArg w (.slice a p cap) := by
  rcases h with h | ⟨b,c,h,hc⟩ | ⟨b,off,l,c,zs,h,h1,h2,h3,h4,h5,h6,hc⟩
  · simp only [Value.slice.injEq] at h
    obtain ⟨rfl,rfl,rfl⟩ := h
    exact .inl (by rw [show p = 0 by omega])
  · simp only [Value.slice.injEq] at h
    obtain ⟨rfl,rfl,rfl⟩ := h
    exact .inr (.inl ⟨b,cap,by rw [show p = 0 by omega],hc⟩)
  · simp only [Value.slice.injEq] at h
    obtain ⟨rfl,rfl,rfl⟩ := h
    by_cases h0 : p = 0
    · exact .inr (.inl ⟨_,_,by rw [h0],h5⟩)
    · exact .inr (.inr ⟨b,off,p,cap,zs,rfl,by omega,by omega,by omega,by omega,h5,h6,hc⟩)
theorem num_zero_lenQ {w : World} {p : Option Addr} {l c : Nat} (h : IsNum w (.slice p l c) 0) : l = 0 := by
  obtain ⟨L,h1,h2,h3⟩ := h
  obtain ⟨p',c',e⟩ := h1.shape
  simp only [Value.slice.injEq] at e
  have := num_len (K := 0) h1 h2 (by rw [h3]; decide)
  omega
theorem num_some_lenQ {w : World} {p : Option Addr} {l c : Nat} {n : Int} (h : IsNum w (.slice p l c) n) (hn : n ≠ 0) : ((l : Int) == 0) = false := by
  obtain ⟨L,h1,h2,h3⟩ := h
  obtain ⟨p',c',e⟩ := h1.shape
  simp only [Value.slice.injEq] at e
  have : L ≠ [] := by
    rintro rfl
    exact hn (by rw [← h3]; rfl)
  have : L.length ≠ 0 := fun e => this (List.eq_nil_of_length_eq_zero e)
  simp; omega

theorem pick_anyQ (x m : Int) (hx : -9223372036854775808 ≤ x) (hx2 : x ≤ 9223372036854775807) (hm : 0 < m) (hm2 : m ≤ 4611686018427387904) (w : World) :
    Calls Tryz.prog 22 #[.int .i64 x,.int .i64 m] w fun e w' => (∃ p : Nat,(p : Int) < m ∧ e = .returned (.int .i64 p)) ∧ w = w' := by
  have h1 : -m < x.tmod m := by
    have := Int.tmod_lt_of_pos (-x) hm
    rw [Int.neg_tmod] at this
    omega
  have h2 : x.tmod m < m := Int.tmod_lt_of_pos x hm
  have hz : (m == 0) = false := by simp; omega
  obtain ⟨t,ht⟩ : ∃ t,x.tmod m = t := ⟨_,rfl⟩
  rw [ht] at h1 h2
  by_cases hneg : t < 0
  · obtain ⟨p,hp⟩ := Int.eq_ofNat_of_zero_le (show 0 ≤ t + m by omega)
    have hp2 : (p : Int) < m := by omega
    have hge : -4611686018427387904 ≤ t := by omega
    have Hp2 := Lib.hid hp2
    clear hp2
    go_enter Tryz.func22,Tryz.ntmps22
    go_wp2_with fail
    go_ret
    exact ⟨⟨p,Hp2.out,by first | rfl | (congr 2)⟩,rfl⟩
  · obtain ⟨p,rfl⟩ := Int.eq_ofNat_of_zero_le (show 0 ≤ t by omega)
    have hge : (0 : Int) ≤ (p : Int) := by omega
    go_enter Tryz.func22,Tryz.ntmps22
    go_wp2_with fail
    go_ret
    exact ⟨⟨p,h2,by first | rfl | (congr 2)⟩,rfl⟩

end Go.Proofs.YtogildikglomkaaGreatDoor

namespace Go.Proofs.YtogildikglomkaaGreatDoor
open Go.RowKit
set_option linter.unusedVariables false

theorem BArg.lenQ {w : World} {v : Value} (h : BArg w v) : ∀ p l k,v = .slice p l k → l ≤ 9223372036854775807 := by
  rintro p l k rfl
  rcases h with h | ⟨a,cap,h,hc⟩ | ⟨b,off,len,cap,zs,h,h1,h2,h3,h4,h5,h6,hc⟩
  · cases h; exact Nat.zero_le _
  · cases h; exact Nat.zero_le _
  · cases h; exact h4
set_option maxRecDepth 100000 in
set_option maxHeartbeats 8000000 in
theorem wholeQuotients_walk (a : Value) (ba : Option Addr) (len cap : Nat) (neg not : Bool) (n : Int) (w : World) (ha : BArg w a) (hb : BArg w (.slice ba len cap)) (hlc : len ≤ cap) (hcap : cap ≤ 140737488355328) (hna : ba = none → len = 0 ∧ cap = 0) (bn : -9223372036854775808 ≤ n ∧ n ≤ 9223372036854775807) :
    Calls Tryz.prog 4 #[a,.slice ba len cap,.bool neg,.bool not,.int .i64 n] w fun e w' => e = .returned (.bool true) ∧ Below w.heap.size w w' := by
  have hBw := Below.refl w.heap.size w
  have hl0 : (0 : Int) ≤ (len : Int) := by omega
  have hl1 : (len : Int) ≤ 140737488355328 := by omega
  go_enter Tryz.func4,Tryz.ntmps4
  go_wp2_with fail
  refine (pick_anyQ n ((len : Int) + 1) bn.1 bn.2 (by omega) (by omega) w).mono ?_
  rintro e w3 ⟨⟨pn,hpn,rfl⟩,rfl⟩
  have hp1 : pn ≤ len := by omega
  have hp2 : pn ≤ cap := by omega
  have hp3 : (pn : Int) ≤ (cap : Int) := by omega
  have hb0 := barg_cutQ hb pn hp1
  clear hpn
  have na := ha.lenQ
  have nb := hb0.lenQ
  go_wp2_with fail
  refine (two2_any _ _ a _ neg not w ha hb0 na nb).mono ?_
  rintro e v1 ⟨_,_,_,_,X,Y,rfl,hx,hy,hs,ht,BX,BY,hb⟩
  obtain ⟨bx,xx,px,lx,cx,rfl⟩ := hx.shape
  obtain ⟨by0,xy,py,ly,cy,rfl⟩ := hy.shape
  obtain ⟨bs,ps,ls,cs,rfl⟩ := hs.shape
  obtain ⟨bt,pt,lt,ct,rfl⟩ := ht.shape
  clear ha hb0 na nb hp1 hp2 hp3 hl0 hl1 hlc hcap hna bn
  replace hBw := hBw.trans (hb.mono hBw.size)
  clear hb
  have hb : Below v1.heap.size v1 ((((v1.alloc (.cells #[.bool bx,.int .u64 xx,.slice px lx cx] 27)).alloc (.cells #[.bool by0,.int .u64 xy,.slice py ly cy] 27)).alloc (.cells #[.bool bs,.slice ps ls cs] 49)).alloc (.cells #[.bool bt,.slice pt lt ct] 49)) := by go_grown
  have ux := ((((Row3.new v1 (.bool bx) (.int .u64 xx) (.slice px lx cx) (v1.heap.size) rfl).alloc (.cells #[.bool by0,.int .u64 xy,.slice py ly cy] 27)).alloc (.cells #[.bool bs,.slice ps ls cs] 49)).alloc (.cells #[.bool bt,.slice pt lt ct] 49))
  have uy := (((Row3.new (v1.alloc (.cells #[.bool bx,.int .u64 xx,.slice px lx cx] 27)) (.bool by0) (.int .u64 xy) (.slice py ly cy) (v1.heap.size + 1) (by simp)).alloc (.cells #[.bool bs,.slice ps ls cs] 49)).alloc (.cells #[.bool bt,.slice pt lt ct] 49))
  have us := ((RowR.new ((v1.alloc (.cells #[.bool bx,.int .u64 xx,.slice px lx cx] 27)).alloc (.cells #[.bool by0,.int .u64 xy,.slice py ly cy] 27)) (.bool bs) (.slice ps ls cs) (v1.heap.size + 1 + 1) (by simp)).alloc (.cells #[.bool bt,.slice pt lt ct] 49))
  have ut := (RowR.new (((v1.alloc (.cells #[.bool bx,.int .u64 xx,.slice px lx cx] 27)).alloc (.cells #[.bool by0,.int .u64 xy,.slice py ly cy] 27)).alloc (.cells #[.bool bs,.slice ps ls cs] 49)) (.bool bt) (.slice pt lt ct) (v1.heap.size + 1 + 1 + 1) (by simp))
  replace hx := hx.below hb
  replace hy := hy.below hb
  replace hs := hs.below hb
  replace ht := ht.below hb
  replace hBw := hBw.trans (hb.mono hBw.size)
  clear hb
  go_wp2_with fail
  generalize ((((v1.alloc (.cells #[.bool bx,.int .u64 xx,.slice px lx cx] 27)).alloc (.cells #[.bool by0,.int .u64 xy,.slice py ly cy] 27)).alloc (.cells #[.bool bs,.slice ps ls cs] 49)).alloc (.cells #[.bool bt,.slice pt lt ct] 49)) = M1 at hBw hx hy hs ht ux uy us ut ⊢
  generalize v1.heap.size = aM1 at ux uy us ut ⊢
  have SX := lt_5 BX
  have SY := lt_5 BY
  clear BX BY
  have B20 : ∀ {z : Int} {k : Nat},k ≤ 20 → absI z < pw k → absI z < pw 20 := fun hk h => Int.lt_of_lt_of_le h (pw_mono hk)
  have KX : absI X < pw 20 := B20 (by decide) SX
  have KY : absI Y < pw 20 := B20 (by decide) SY
  have BR : absI (rD X Y) < pw 20 := rD_bd KY
  have ux_0 := ux.cell0
  have ux_1 := ux.cell1
  have ux_2 := ux.cell2
  have uy_0 := uy.cell0
  have uy_1 := uy.cell1
  have uy_2 := uy.cell2
  go_wp2_with fail
  clear ux_0 ux_1 ux_2 uy_0 uy_1 uy_2
  refine (div_gen 20 (by decide) _ _ X Y M1 hx hy KX KY (by decide +kernel)).mono ?_
  rintro e v2 ⟨_,_,ok,rfl,hok,hq,hr,hb⟩
  obtain ⟨bq,xq,pq,lq,cq,rfl⟩ := hq.shape
  obtain ⟨br,xr,pr,lr,cr,rfl⟩ := hr.shape
  replace hx := hx.below hb
  replace hy := hy.below hb
  replace hs := hs.below hb
  replace ht := ht.below hb
  replace ux := ux.below hb ux.lt
  replace uy := uy.below hb uy.lt
  replace us := us.below hb us.lt
  replace ut := ut.below hb ut.lt
  replace hBw := hBw.trans (hb.mono hBw.size)
  clear hb
  clear hx hy ux uy
  by_cases h0 : Y = 0
  · obtain rfl : ok = false := by rw [hok,h0]; rfl
    have HQ : Hid (sgnI (qD X Y) = 0) := Lib.hid (by rw [h0]; rfl)
    have HR : Hid (sgnI (rD X Y) = 0) := Lib.hid (by rw [h0]; rfl)
    obtain rfl : lt = 0 := by
      obtain ⟨_,_,_,_,e,_,hn⟩ := ht
      simp only [Value.agg.injEq,Array.mk.injEq,List.cons.injEq,Value.slice.injEq] at e
      obtain ⟨_,⟨rfl,rfl,rfl⟩,_⟩ := e
      exact num_zero_lenQ (by rw [h0] at hn; exact hn)
    clear hok h0 hs ht us KX KY SX SY B20
    have hb : Below v2.heap.size v2 ((v2.alloc (.cells #[.bool bq,.int .u64 xq,.slice pq lq cq] 27)).alloc (.cells #[.bool br,.int .u64 xr,.slice pr lr cr] 27)) := by go_grown
    have uq := ((Row3.new v2 (.bool bq) (.int .u64 xq) (.slice pq lq cq) (v2.heap.size) rfl).alloc (.cells #[.bool br,.int .u64 xr,.slice pr lr cr] 27))
    have ur := (Row3.new (v2.alloc (.cells #[.bool bq,.int .u64 xq,.slice pq lq cq] 27)) (.bool br) (.int .u64 xr) (.slice pr lr cr) (v2.heap.size + 1) (by simp))
    replace ut := ut.below hb ut.lt
    replace hq := hq.below hb
    replace hr := hr.below hb
    replace hBw := hBw.trans (hb.mono hBw.size)
    clear hb
    have ut_0 := ut.cell0
    have ut_1 := ut.cell1
    go_wp2_with fail
    clear ut_0 ut_1
    generalize ((v2.alloc (.cells #[.bool bq,.int .u64 xq,.slice pq lq cq] 27)).alloc (.cells #[.bool br,.int .u64 xr,.slice pr lr cr] 27)) = M3 at hBw ut hq hr uq ur ⊢
    generalize v2.heap.size = aM3 at uq ur ⊢
    refine (known2_true M3).mono ?_
    rintro e v3 ⟨rfl,hb⟩
    replace ut := ut.below hb ut.lt
    replace hq := hq.below hb
    replace hr := hr.below hb
    replace uq := uq.below hb uq.lt
    replace ur := ur.below hb ur.lt
    replace hBw := hBw.trans (hb.mono hBw.size)
    clear hb
    have uq_0 := uq.cell0
    have uq_1 := uq.cell1
    have uq_2 := uq.cell2
    have ur_0 := ur.cell0
    have ur_1 := ur.cell1
    have ur_2 := ur.cell2
    go_wp2_with fail
    clear uq_0 uq_1 uq_2 ur_0 ur_1 ur_2
    refine (sign_s _ (qD X Y) _ HQ v3 hq).mono ?_
    rintro e v4 ⟨rfl,hb⟩
    replace ut := ut.below hb ut.lt
    replace hq := hq.below hb
    replace hr := hr.below hb
    replace uq := uq.below hb uq.lt
    replace ur := ur.below hb ur.lt
    replace hBw := hBw.trans (hb.mono hBw.size)
    clear hb
    have uq_0 := uq.cell0
    have uq_1 := uq.cell1
    have uq_2 := uq.cell2
    have ur_0 := ur.cell0
    have ur_1 := ur.cell1
    have ur_2 := ur.cell2
    go_wp2_with fail
    clear uq_0 uq_1 uq_2 ur_0 ur_1 ur_2
    refine (sign_s _ (rD X Y) _ HR v4 hr).mono ?_
    rintro e v5 ⟨rfl,hb⟩
    replace ut := ut.below hb ut.lt
    replace hq := hq.below hb
    replace hr := hr.below hb
    replace uq := uq.below hb uq.lt
    replace ur := ur.below hb ur.lt
    replace hBw := hBw.trans (hb.mono hBw.size)
    clear hb
    go_wp2
    go_ret
    exact ⟨rfl,hBw⟩
  · obtain rfl : ok = true := by rw [hok]; simp [h0]
    have hlt : ((lt : Int) == 0) = false := by
      obtain ⟨_,_,_,_,e,_,hn⟩ := ht
      simp only [Value.agg.injEq,Array.mk.injEq,List.cons.injEq,Value.slice.injEq] at e
      obtain ⟨_,⟨rfl,rfl,rfl⟩,_⟩ := e
      exact num_some_lenQ hn (by have := absI_pos h0; omega)
    have B1 : absI (qD X Y) < pw 20 := B20 (by decide) (qD_bd SX (by decide +kernel))
    have B2 : absI (rD X Y) < pw 20 := BR
    have eq1 : qI X Y = qD X Y := by unfold qD; rw [if_neg h0]
    have eq2 : rI X Y = rD X Y := by unfold rD; rw [if_neg h0]
    have dv := fun W (h1 : IsR W (.agg #[.bool bs,.slice ps ls cs]) X) (h2 : IsR W (.agg #[.bool bt,.slice pt lt ct]) Y) => intDiv_K 5 (by decide) (by decide) _ _ X Y W h1 h2 h0 SX SY
    simp only [eq1,eq2] at dv
    clear hok h0 KX KY SX SY B20 eq1 eq2
    have hb : Below v2.heap.size v2 ((v2.alloc (.cells #[.bool bq,.int .u64 xq,.slice pq lq cq] 27)).alloc (.cells #[.bool br,.int .u64 xr,.slice pr lr cr] 27)) := by go_grown
    have uq := ((Row3.new v2 (.bool bq) (.int .u64 xq) (.slice pq lq cq) (v2.heap.size) rfl).alloc (.cells #[.bool br,.int .u64 xr,.slice pr lr cr] 27))
    have ur := (Row3.new (v2.alloc (.cells #[.bool bq,.int .u64 xq,.slice pq lq cq] 27)) (.bool br) (.int .u64 xr) (.slice pr lr cr) (v2.heap.size + 1) (by simp))
    replace hs := hs.below hb
    replace ht := ht.below hb
    replace us := us.below hb us.lt
    replace ut := ut.below hb ut.lt
    replace hq := hq.below hb
    replace hr := hr.below hb
    replace hBw := hBw.trans (hb.mono hBw.size)
    clear hb
    have us_0 := us.cell0
    have us_1 := us.cell1
    have ut_0 := ut.cell0
    have ut_1 := ut.cell1
    go_wp2_with fail
    clear us_0 us_1 ut_0 ut_1
    generalize ((v2.alloc (.cells #[.bool bq,.int .u64 xq,.slice pq lq cq] 27)).alloc (.cells #[.bool br,.int .u64 xr,.slice pr lr cr] 27)) = M3 at hBw hs ht us ut hq hr uq ur ⊢
    generalize v2.heap.size = aM3 at uq ur ⊢
    refine (dv M3 hs ht).mono ?_
    rintro e v3 ⟨_,_,rfl,hi,hj,hb⟩
    clear dv hs ht
    obtain ⟨bi,pi,li,ci,rfl⟩ := hi.shape
    obtain ⟨bj,pj,lj,cj,rfl⟩ := hj.shape
    replace us := us.below hb us.lt
    replace ut := ut.below hb ut.lt
    replace hq := hq.below hb
    replace hr := hr.below hb
    replace uq := uq.below hb uq.lt
    replace ur := ur.below hb ur.lt
    replace hBw := hBw.trans (hb.mono hBw.size)
    clear hb
    have hb : Below v3.heap.size v3 ((v3.alloc (.cells #[.bool bi,.slice pi li ci] 49)).alloc (.cells #[.bool bj,.slice pj lj cj] 49)) := by go_grown
    have ui := ((RowR.new v3 (.bool bi) (.slice pi li ci) (v3.heap.size) rfl).alloc (.cells #[.bool bj,.slice pj lj cj] 49))
    have uj := (RowR.new (v3.alloc (.cells #[.bool bi,.slice pi li ci] 49)) (.bool bj) (.slice pj lj cj) (v3.heap.size + 1) (by simp))
    replace us := us.below hb us.lt
    replace ut := ut.below hb ut.lt
    replace hq := hq.below hb
    replace hr := hr.below hb
    replace uq := uq.below hb uq.lt
    replace ur := ur.below hb ur.lt
    replace hi := hi.below hb
    replace hj := hj.below hb
    replace hBw := hBw.trans (hb.mono hBw.size)
    clear hb
    go_wp2_with fail
    generalize ((v3.alloc (.cells #[.bool bi,.slice pi li ci] 49)).alloc (.cells #[.bool bj,.slice pj lj cj] 49)) = M4 at hBw us ut hq hr uq ur hi hj ui uj ⊢
    generalize v3.heap.size = aM4 at ui uj ⊢
    refine (known2_true M4).mono ?_
    rintro e v4 ⟨rfl,hb⟩
    replace us := us.below hb us.lt
    replace ut := ut.below hb ut.lt
    replace hq := hq.below hb
    replace hr := hr.below hb
    replace uq := uq.below hb uq.lt
    replace ur := ur.below hb ur.lt
    replace hi := hi.below hb
    replace hj := hj.below hb
    replace ui := ui.below hb ui.lt
    replace uj := uj.below hb uj.lt
    replace hBw := hBw.trans (hb.mono hBw.size)
    clear hb
    have uq_0 := uq.cell0
    have uq_1 := uq.cell1
    have uq_2 := uq.cell2
    have ur_0 := ur.cell0
    have ur_1 := ur.cell1
    have ur_2 := ur.cell2
    have ui_0 := ui.cell0
    have ui_1 := ui.cell1
    have uj_0 := uj.cell0
    have uj_1 := uj.cell1
    go_wp2_with fail
    clear uq_0 uq_1 uq_2 ur_0 ur_1 ur_2 ui_0 ui_1 uj_0 uj_1
    refine (is_int 20 (by decide) _ _ (qD X Y) B1 v4 hq hi).mono ?_
    rintro e v5 ⟨rfl,hb⟩
    replace us := us.below hb us.lt
    replace ut := ut.below hb ut.lt
    replace hq := hq.below hb
    replace hr := hr.below hb
    replace uq := uq.below hb uq.lt
    replace ur := ur.below hb ur.lt
    replace hi := hi.below hb
    replace hj := hj.below hb
    replace ui := ui.below hb ui.lt
    replace uj := uj.below hb uj.lt
    replace hBw := hBw.trans (hb.mono hBw.size)
    clear hb
    have uq_0 := uq.cell0
    have uq_1 := uq.cell1
    have uq_2 := uq.cell2
    have ur_0 := ur.cell0
    have ur_1 := ur.cell1
    have ur_2 := ur.cell2
    have ui_0 := ui.cell0
    have ui_1 := ui.cell1
    have uj_0 := uj.cell0
    have uj_1 := uj.cell1
    go_wp2_with fail
    clear uq_0 uq_1 uq_2 ur_0 ur_1 ur_2 ui_0 ui_1 uj_0 uj_1
    refine (is_int 20 (by decide) _ _ (rD X Y) B2 v5 hr hj).mono ?_
    rintro e v6 ⟨rfl,hb⟩
    replace us := us.below hb us.lt
    replace ut := ut.below hb ut.lt
    replace hq := hq.below hb
    replace hr := hr.below hb
    replace uq := uq.below hb uq.lt
    replace ur := ur.below hb ur.lt
    replace hi := hi.below hb
    replace hj := hj.below hb
    replace ui := ui.below hb ui.lt
    replace uj := uj.below hb uj.lt
    replace hBw := hBw.trans (hb.mono hBw.size)
    clear hb
    go_wp2
    go_ret
    exact ⟨rfl,hBw⟩
end Go.Proofs.YtogildikglomkaaGreatDoor
