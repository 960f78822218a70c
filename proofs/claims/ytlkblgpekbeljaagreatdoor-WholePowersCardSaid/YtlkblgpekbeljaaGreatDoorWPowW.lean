/- WholePowers,walked. (gen_wpow.py) -/
import Derived.Test.YtlkblgpekbeljaaGreatDoorWPowK
import Derived.Test.YtlkblgpekbeljaaGreatDoorWhoY
namespace Go.Proofs.YtlkblgpekbeljaaGreatDoor
open Go.RowKit
set_option linter.unusedVariables false

def RetFewC (M N : Nat) (w : World) (e : Ending) (w' : World) : Prop := ∃ g n cap l,e = .returned (.slice (some ⟨g,0,none⟩) n cap) ∧ Arr w' g 5 .u8 l ∧ n ≤ l.length ∧ n ≤ M ∧ n ≤ N ∧ n ≤ cap ∧ cap ≤ 9223372036854775807 ∧ Bytes8 l ∧ Below w.heap.size w w'
set_option maxRecDepth 100000 in
set_option maxHeartbeats 1000000 in
theorem fewC_nil (M N : Nat) (hM : M ≤ 48) (w : World) : Calls Tryz.prog 37 #[.slice none 0 0,.int .i64 (M : Int)] w (RetFewC M N w) := by
  go_enter Tryz.func37,Tryz.ntmps37
  go_wp2
  go_ret
  exact ⟨w.heap.size,0,0,[],rfl,Arr.new w _ _ [] _ rfl,by simp,by omega,by omega,by omega,by omega,fun _ h => by simp at h,by go_grown⟩
set_option maxRecDepth 100000 in
set_option maxHeartbeats 1000000 in
theorem fewC_any (M N : Nat) (hM0 : 0 < M) (hM : M ≤ 48) (b off len cap : Nat) (zs : List Int) (hN : len ≤ N) (hp : 0 < len) (hl : len ≤ cap) (hz : len ≤ zs.length) (hm : len ≤ 9223372036854775807) (hcm : cap ≤ 9223372036854775807) (hby : Bytes8 zs) (w : World)
    (hc : ∀ j,j < zs.length → w.cell? ⟨b,off + j,none⟩ = some (.int .u8 (zs.getD j 0))) :
    Calls Tryz.prog 37 #[.slice (some ⟨b,off,none⟩) len cap,.int .i64 (M : Int)] w (RetFewC M N w) := by
  obtain ⟨n,hn⟩ : ∃ n : Nat,min len M = n := ⟨_,rfl⟩
  have hni : min (len : Int) (M : Int) = n := by omega
  have hn1 : 0 < n := by omega
  have hn2 : n ≤ len := by omega
  have hn3 : n ≤ M := by omega
  have A : Aside (∀ j,j < zs.length → w.cell? ⟨b,off + j,none⟩ = some (.int .u8 (zs.getD j 0))) := hc
  clear hc
  obtain ⟨i0,hi,hz0,hz1,hz2⟩ := info_parts info8
  have hge := grownCap_ge (w.alloc (.cells #[] 5)) (0 + n) 0 5
  have hle := grownCap_le_maxLen (w.alloc (.cells #[] 5)) (0 + n) 0 5 (by simp only [maxLen]; omega)
  have hrun := run_append_grow (P := Tryz.prog) (w.alloc (.cells #[] 5)) 45 45 5 i0 _ Tryz.underlying45 hi hz0 ⟨w.heap.size,0,none⟩ 0 0 [] (by simp) (by simp) ⟨b,off,none⟩ n cap ((zs.take n).map (Value.int .u8)) (by rw [hz1]; simp; omega) (by
    intro j v hj
    have hjn : j < n ∧ j < zs.length := by
      have := (List.getElem?_eq_some_iff.1 hj).1
      simp at this
      omega
    have hadd : (⟨b,off,none⟩ : Addr).add j = ⟨b,off + j,none⟩ := by unfold Addr.add; split <;> simp_all
    rw [hadd]
    refine Lib.cell?_alloc_some _ ?_
    rw [A.out j hjn.2]
    simp only [List.getElem?_map,List.getElem?_take,if_pos hjn.1] at hj
    rw [← hj]
    simp [List.getD_eq_getElem?_getD,List.getElem?_eq_getElem hjn.2]) (by omega) (by omega) (growslice_fits (by omega) (by rw [hz2]; omega))
  obtain ⟨kap,hcap⟩ : ∃ kap,grownCap (w.alloc (.cells #[] 5)) (0 + n) 0 5 = kap := ⟨_,rfl⟩
  rw [hcap] at hge hle hrun
  simp only [maxLen] at hle
  have Hle := Lib.hid hle
  clear hle
  rw [zeroCells_u8] at hrun
  have e0 : (#[] : Array Value) ++ ((zs.take n).map (Value.int .u8)).toArray ++ ((List.replicate (kap - (0 + n)) (0 : Int)).map (Value.int .u8)).toArray = ((zs.take n ++ List.replicate (kap - (0 + n)) 0).map (Value.int .u8)).toArray := by simp
  rw [e0,Nat.zero_add] at hrun
  rw [Nat.zero_add] at hge
  go_enter Tryz.func37,Tryz.ntmps37
  go_wp2_with (at_builtin; refine Lib.wpList_append_run _ rfl _ _ _ _ rfl _ _ rfl rfl _ _ hrun ?_)
  go_wp2
  go_ret
  have hA := Arr.new (w.alloc (.cells #[] 5)) 5 .u8 (zs.take n ++ List.replicate (kap - n) 0) (w.heap.size + 1) (by simp)
  rw [List.map_append,List.map_take,List.map_replicate] at hA
  refine ⟨w.heap.size + 1,n,kap,_,rfl,hA,by simp; omega,hn3,by omega,by omega,by have := Hle.out; omega,?_,by go_grown⟩
  intro x hx
  rcases List.mem_append.1 hx with h | h
  · exact hby x (List.mem_of_mem_take h)
  · rw [List.eq_of_mem_replicate h]; exact ⟨by decide,by decide⟩
set_option maxRecDepth 100000 in
set_option maxHeartbeats 1000000 in
theorem fewC_zero (M N : Nat) (hM : M ≤ 48) (a : Addr) (cap : Nat) (hcm : cap ≤ 9223372036854775807) (w : World) : Calls Tryz.prog 37 #[.slice (some a) 0 cap,.int .i64 (M : Int)] w (RetFewC M N w) := by
  have hmin : min (0 : Int) (M : Int) = 0 := by omega
  go_enter Tryz.func37,Tryz.ntmps37
  go_wp2
  go_ret
  exact ⟨w.heap.size,0,0,[],rfl,Arr.new w _ _ [] _ rfl,by simp,by omega,by omega,by omega,by omega,fun _ h => by simp at h,by go_grown⟩
theorem BArg.lenP {w : World} {v : Value} (h : BArg w v) : ∀ p l k,v = .slice p l k → l ≤ 9223372036854775807 := by
  rintro p l k rfl
  rcases h with h | ⟨a,cap,h,hc⟩ | ⟨b,off,len,cap,zs,h,h1,h2,h3,h4,h5,h6,hc⟩
  · cases h; exact Nat.zero_le _
  · cases h; exact Nat.zero_le _
  · cases h; exact h4
/-- At most twelve bytes,as an argument. -/
theorem few12 (v : Value) (w : World) (h : BArg w v) : Calls Tryz.prog 37 #[v,.int .i64 12] w fun e w' => ∃ u,e = .returned u ∧ BArg w' u ∧ (∀ p l k,u = .slice p l k → l ≤ 12) ∧ Below w.heap.size w w' := by
  have q : Calls Tryz.prog 37 #[v,.int .i64 12] w (RetFewC 12 9223372036854775807 w) := by
    have hl := h.lenP
    rcases h with rfl | ⟨a,cap,rfl,hc⟩ | ⟨b,off,len,cap,zs,rfl,h1,h2,h3,h4,h5,h6,hc⟩
    · exact fewC_nil 12 _ (by decide) w
    · exact fewC_zero 12 _ (by decide) a cap hc w
    · exact fewC_any 12 _ (by decide) (by decide) b off len cap zs h4 h1 h2 h3 h4 h5 h6 w hc
  refine q.mono ?_
  rintro e w' ⟨g,n,cap,l,rfl,hg,hn,hM,_,hc,hc2,hby,hb⟩
  refine ⟨_,rfl,?_,?_,hb⟩
  · rcases Nat.eq_zero_or_pos n with rfl | h0
    · exact .inr (.inl ⟨_,_,rfl,hc2⟩)
    · refine .inr (.inr ⟨g,0,n,cap,l,rfl,h0,hc,hn,by omega,hc2,hby,fun j hj => ?_⟩)
      rw [Nat.zero_add]
      exact hg.cell j hj
  · intro p l k he
    cases he
    exact hM
theorem ipow_bd {z : Int} (hz : absI z < pw 2) : ∀ N : Nat,N ≤ 14 → absI (z ^ N) < pw (2 * N + 1)
  | 0,_ => by simp [absI,pw]
  | N + 1,h => by
    have ih := ipow_bd hz N (by omega)
    rw [Int.pow_succ]
    have h1 : absI (z ^ N * z) = absI (z ^ N) * absI z := by
      unfold absI
      by_cases a : z ^ N < 0 <;> by_cases b : z < 0
      · have := Int.mul_pos_of_neg_of_neg a b
        rw [if_neg (by omega),if_pos a,if_pos b,Int.neg_mul_neg]
      · rw [if_pos a,if_neg b,Int.neg_mul]
        have := Int.mul_nonpos_of_nonpos_of_nonneg (Int.le_of_lt a) (Int.not_lt.1 b)
        split <;> omega
      · rw [if_neg a,if_pos b,Int.mul_neg]
        have := Int.mul_nonpos_of_nonneg_of_nonpos (Int.not_lt.1 a) (Int.le_of_lt b)
        split <;> omega
      · have := Int.mul_nonneg (Int.not_lt.1 a) (Int.not_lt.1 b)
        rw [if_neg (by omega),if_neg a,if_neg b]
    rw [h1]
    have := pw_prod (absI_nonneg _) ih (absI_nonneg z) hz
    rw [show 2 * (N + 1) + 1 = 2 * N + 1 + 2 by omega]
    exact this
theorem of_val (n z : Int) (hn : -9223372036854775808 ≤ n ∧ n ≤ 9223372036854775807) (hz : n = z) (w : World) : Calls Tryz.prog 8 #[.int .i64 n] w (RetInt z w) := by
  subst hz
  exact of_int n hn w
set_option maxRecDepth 100000 in
set_option maxHeartbeats 8000000 in
theorem wholePowers_walk (a : Value) (neg : Bool) (n m : Int) (w : World) (ha : BArg w a) (bn : -9223372036854775808 ≤ n ∧ n ≤ 9223372036854775807) (bm : -9223372036854775808 ≤ m ∧ m ≤ 9223372036854775807) : Calls Tryz.prog 7 #[a,.bool neg,.int .i64 n,.int .i64 m] w fun e w' => e = .returned (.bool true) ∧ Below w.heap.size w w' := by
  have hBw := Below.refl w.heap.size w
  go_enter Tryz.func7,Tryz.ntmps7
  go_wp2_with fail
  refine (few12 a w ha).mono ?_
  rintro e v1 ⟨u,rfl,hu,hul,hb⟩
  replace hBw := hBw.trans (hb.mono hBw.size)
  clear hb
  clear ha
  go_wp2_with fail
  refine (two2_any 12 0 u (.slice none 0 0) neg false v1 hu (.inl rfl) hul (by rintro p l k h; cases h; exact Nat.le_refl _)).mono ?_
  rintro e v2 ⟨_,_,_,_,X,O,rfl,hx,ho,hs,ht,BX,_,hb⟩
  obtain ⟨bx,xx,px,lx,cx,rfl⟩ := hx.shape
  obtain ⟨bo,xo,po,lo,co,rfl⟩ := ho.shape
  obtain ⟨bs,ps,ls,cs,rfl⟩ := hs.shape
  obtain ⟨bt,pt,lt,ct,rfl⟩ := ht.shape
  clear hs ht ho hu hul
  replace hBw := hBw.trans (hb.mono hBw.size)
  clear hb
  have SX : absI X < pw 2 := by
    have h1 := lpw_mono (show (min 40 12 + 3) / 4 ≤ 2 * 2 by decide)
    rw [lpw_pwL] at h1
    omega
  clear BX
  have hb : Below v2.heap.size v2 ((((v2.alloc (.cells #[.bool bx,.int .u64 xx,.slice px lx cx] 27)).alloc (.cells #[.bool bo,.int .u64 xo,.slice po lo co] 27)).alloc (.cells #[.bool bs,.slice ps ls cs] 49)).alloc (.cells #[.bool bt,.slice pt lt ct] 49)) := by go_grown
  have ux := ((((Row3.new v2 (.bool bx) (.int .u64 xx) (.slice px lx cx) (v2.heap.size) rfl).alloc (.cells #[.bool bo,.int .u64 xo,.slice po lo co] 27)).alloc (.cells #[.bool bs,.slice ps ls cs] 49)).alloc (.cells #[.bool bt,.slice pt lt ct] 49))
  replace hx := hx.below hb
  replace hBw := hBw.trans (hb.mono hBw.size)
  clear hb
  go_wp2_with fail
  generalize ((((v2.alloc (.cells #[.bool bx,.int .u64 xx,.slice px lx cx] 27)).alloc (.cells #[.bool bo,.int .u64 xo,.slice po lo co] 27)).alloc (.cells #[.bool bs,.slice ps ls cs] 49)).alloc (.cells #[.bool bt,.slice pt lt ct] 49)) = M1 at hBw hx ux ⊢
  generalize v2.heap.size = aM1 at ux ⊢
  refine (pick_w n 8 bn.1 bn.2 (by decide) (by decide) _).mono ?_
  rintro e w0 ⟨⟨N,hN,rfl⟩,rfl⟩
  clear bn
  go_wp2_with fail
  refine (pick_w m 8 bm.1 bm.2 (by decide) (by decide) _).mono ?_
  rintro e w0 ⟨⟨J,hJ,rfl⟩,rfl⟩
  clear bm
  have hN2 : N ≤ 7 := by omega
  have hJ2 : J ≤ 7 := by omega
  have HN := Lib.hid hN2
  have HJ := Lib.hid hJ2
  have hN0 : (0 : Int) ≤ (N : Int) := by omega
  have hJ0 : (0 : Int) ≤ (J : Int) := by omega
  have hN7 : (N : Int) ≤ 7 := by omega
  have hJ7 : (J : Int) ≤ 7 := by omega
  clear hN2 hJ2 hN hJ
  have ux_0 := ux.cell0
  have ux_1 := ux.cell1
  have ux_2 := ux.cell2
  go_wp2_with fail
  clear ux_0 ux_1 ux_2
  refine (ipow_int N (by have := HN.out; omega) _ X M1 hx SX).mono ?_
  rintro e v3 ⟨_,rfl,hp,hb⟩
  obtain ⟨bp,xp,pp,lp,cp,rfl⟩ := hp.shape
  replace hx := hx.below hb
  replace ux := ux.below hb ux.lt
  replace hBw := hBw.trans (hb.mono hBw.size)
  clear hb
  have hb : Below v3.heap.size v3 (v3.alloc (.cells #[.bool bp,.int .u64 xp,.slice pp lp cp] 27)) := by go_grown
  have up := (Row3.new v3 (.bool bp) (.int .u64 xp) (.slice pp lp cp) (v3.heap.size) rfl)
  replace hx := hx.below hb
  replace ux := ux.below hb ux.lt
  replace hp := hp.below hb
  replace hBw := hBw.trans (hb.mono hBw.size)
  clear hb
  have ux_0 := ux.cell0
  have ux_1 := ux.cell1
  have ux_2 := ux.cell2
  go_wp2_with fail
  clear ux_0 ux_1 ux_2
  generalize (v3.alloc (.cells #[.bool bp,.int .u64 xp,.slice pp lp cp] 27)) = M2 at hBw hx ux hp up ⊢
  generalize v3.heap.size = aM2 at up ⊢
  refine (ipow_int J (by have := HJ.out; omega) _ X M2 hx SX).mono ?_
  rintro e v4 ⟨_,rfl,hq,hb⟩
  obtain ⟨bq,xq,pq,lq,cq,rfl⟩ := hq.shape
  replace hx := hx.below hb
  replace ux := ux.below hb ux.lt
  replace hp := hp.below hb
  replace up := up.below hb up.lt
  replace hBw := hBw.trans (hb.mono hBw.size)
  clear hb
  have hb : Below v4.heap.size v4 (v4.alloc (.cells #[.bool bq,.int .u64 xq,.slice pq lq cq] 27)) := by go_grown
  have uq := (Row3.new v4 (.bool bq) (.int .u64 xq) (.slice pq lq cq) (v4.heap.size) rfl)
  replace hx := hx.below hb
  replace ux := ux.below hb ux.lt
  replace hp := hp.below hb
  replace up := up.below hb up.lt
  replace hq := hq.below hb
  replace hBw := hBw.trans (hb.mono hBw.size)
  clear hb
  have ux_0 := ux.cell0
  have ux_1 := ux.cell1
  have ux_2 := ux.cell2
  go_wp2_with fail
  clear ux_0 ux_1 ux_2
  generalize (v4.alloc (.cells #[.bool bq,.int .u64 xq,.slice pq lq cq] 27)) = M3 at hBw hx ux hp up hq uq ⊢
  generalize v4.heap.size = aM3 at uq ⊢
  have eNJ : ((N + J : Nat) : Int) = (N : Int) + (J : Int) := by omega
  have qNJ := fun W v (h : IsInt W v X) => ipow_int (N + J) (by have := HN.out; have := HJ.out; omega) v X W h SX
  rw [eNJ] at qNJ
  clear eNJ
  refine (qNJ M3 _ hx).mono ?_
  rintro e v5 ⟨_,rfl,hr,hb⟩
  obtain ⟨br,xr,pr,lr,cr,rfl⟩ := hr.shape
  replace hx := hx.below hb
  replace ux := ux.below hb ux.lt
  replace hp := hp.below hb
  replace up := up.below hb up.lt
  replace hq := hq.below hb
  replace uq := uq.below hb uq.lt
  replace hBw := hBw.trans (hb.mono hBw.size)
  clear hb
  have hb : Below v5.heap.size v5 (v5.alloc (.cells #[.bool br,.int .u64 xr,.slice pr lr cr] 27)) := by go_grown
  have ur := (Row3.new v5 (.bool br) (.int .u64 xr) (.slice pr lr cr) (v5.heap.size) rfl)
  replace hx := hx.below hb
  replace ux := ux.below hb ux.lt
  replace hp := hp.below hb
  replace up := up.below hb up.lt
  replace hq := hq.below hb
  replace uq := uq.below hb uq.lt
  replace hr := hr.below hb
  replace hBw := hBw.trans (hb.mono hBw.size)
  clear hb
  have ux_0 := ux.cell0
  have ux_1 := ux.cell1
  have ux_2 := ux.cell2
  go_wp2_with fail
  clear ux_0 ux_1 ux_2
  generalize (v5.alloc (.cells #[.bool br,.int .u64 xr,.slice pr lr cr] 27)) = M4 at hBw hx ux hp up hq uq hr ur ⊢
  generalize v5.heap.size = aM4 at ur ⊢
  refine (ipow_none (-1 - (N : Int)) (by omega) (by omega) _ X M4 hx).mono ?_
  rintro e v6 ⟨_,rfl,hd,hb⟩
  obtain ⟨bd,xd,pd,ld,cd,rfl⟩ := hd.shape
  replace hx := hx.below hb
  replace ux := ux.below hb ux.lt
  replace hp := hp.below hb
  replace up := up.below hb up.lt
  replace hq := hq.below hb
  replace uq := uq.below hb uq.lt
  replace hr := hr.below hb
  replace ur := ur.below hb ur.lt
  replace hBw := hBw.trans (hb.mono hBw.size)
  clear hb
  have hb : Below v6.heap.size v6 (v6.alloc (.cells #[.bool bd,.int .u64 xd,.slice pd ld cd] 27)) := by go_grown
  have ud := (Row3.new v6 (.bool bd) (.int .u64 xd) (.slice pd ld cd) (v6.heap.size) rfl)
  replace hx := hx.below hb
  replace ux := ux.below hb ux.lt
  replace hp := hp.below hb
  replace up := up.below hb up.lt
  replace hq := hq.below hb
  replace uq := uq.below hb uq.lt
  replace hr := hr.below hb
  replace ur := ur.below hb ur.lt
  replace hd := hd.below hb
  replace hBw := hBw.trans (hb.mono hBw.size)
  clear hb
  have ux_0 := ux.cell0
  have ux_1 := ux.cell1
  have ux_2 := ux.cell2
  go_wp2_with fail
  clear ux_0 ux_1 ux_2
  generalize (v6.alloc (.cells #[.bool bd,.int .u64 xd,.slice pd ld cd] 27)) = M5 at hBw hx ux hp up hq uq hr ur hd ud ⊢
  generalize v6.heap.size = aM5 at ud ⊢
  clear hd ud
  refine (of_val 1 (X ^ 0) ⟨by decide,by decide⟩ (by simp) M5).mono ?_
  rintro e v7 ⟨_,rfl,hk,hb⟩
  obtain ⟨bk,xk,pk,lk,ck,rfl⟩ := hk.shape
  replace hx := hx.below hb
  replace ux := ux.below hb ux.lt
  replace hp := hp.below hb
  replace up := up.below hb up.lt
  replace hq := hq.below hb
  replace uq := uq.below hb uq.lt
  replace hr := hr.below hb
  replace ur := ur.below hb ur.lt
  replace hBw := hBw.trans (hb.mono hBw.size)
  clear hb
  have e0 := hBw.size
  have eux := ux.lt
  have eup := up.lt
  have euq := uq.lt
  have eur := ur.lt
  have hb : Below v7.heap.size v7 (v7.alloc (.cells #[.bool bk,.int .u64 xk,.slice pk lk ck] 27)) := by go_grown
  have uk := (Row3.new v7 (.bool bk) (.int .u64 xk) (.slice pk lk ck) (v7.heap.size) rfl)
  replace hx := hx.below hb
  replace ux := ux.below hb ux.lt
  replace hp := hp.below hb
  replace up := up.below hb up.lt
  replace hq := hq.below hb
  replace uq := uq.below hb uq.lt
  replace hr := hr.below hb
  replace ur := ur.below hb ur.lt
  replace hk := hk.below hb
  replace hBw := hBw.trans (hb.mono hBw.size)
  clear hb
  go_wp2_with fail
  generalize (v7.alloc (.cells #[.bool bk,.int .u64 xk,.slice pk lk ck] 27)) = M6 at hBw hx ux hp up hq uq hr ur hk uk ⊢
  generalize v7.heap.size = aM6 at uk e0 eux eup euq eur ⊢
  go_loopw [22] (fun i wr => ∃ (j : Nat) (bk : Bool) (xk : Int) (pk : Option Addr) (lk ck : Nat),j ≤ N ∧ i = .int .i64 (j : Int) ∧ Row3 wr aM6 (.bool bk) (.int .u64 xk) (.slice pk lk ck) ∧ IsInt wr (.agg #[.bool bk,.int .u64 xk,.slice pk lk ck]) (X ^ j) ∧ IsInt wr (.agg #[.bool bx,.int .u64 xx,.slice px lx cx]) X ∧ IsInt wr (.agg #[.bool bp,.int .u64 xp,.slice pp lp cp]) (X ^ N) ∧ IsInt wr (.agg #[.bool bq,.int .u64 xq,.slice pq lq cq]) (X ^ J) ∧ IsInt wr (.agg #[.bool br,.int .u64 xr,.slice pr lr cr]) (X ^ (N + J)) ∧ Row3 wr aM1 (.bool bx) (.int .u64 xx) (.slice px lx cx) ∧ Row3 wr aM2 (.bool bp) (.int .u64 xp) (.slice pp lp cp) ∧ Row3 wr aM3 (.bool bq) (.int .u64 xq) (.slice pq lq cq) ∧ Row3 wr aM4 (.bool br) (.int .u64 xr) (.slice pr lr cr) ∧ Below w.heap.size w wr) (fun i _ => N - (intOf i).toNat)
  case atStart => exact ⟨0,bk,xk,pk,lk,ck,Nat.zero_le _,rfl,uk,hk,hx,hp,hq,hr,ux,up,uq,ur,hBw⟩
  case round =>
    clear uk hk hx hp hq hr ux up uq ur hBw
    obtain ⟨j,bk,xk,pk,lk,ck,hj,rfl,uk,hk,hx,hp,hq,hr,ux,up,uq,ur,hBw⟩ := hrel
    by_cases hlt : j < N
    · have hlt2 : (j : Int) < (N : Int) := by omega
      have hj0 : (0 : Int) ≤ (j : Int) := by omega
      have hj14 : j ≤ 14 := by have := HN.out; omega
      have Bk : absI (X ^ j) < pw 20 := Int.lt_of_lt_of_le (ipow_bd SX j hj14) (pw_mono (by have := HN.out; omega))
      have Bx : absI X < pw 20 := Int.lt_of_lt_of_le SX (pw_mono (by decide))
      have Hlt := Lib.hid hlt
      clear hlt hj hj14
      have uk_0 := uk.cell0
      have uk_1 := uk.cell1
      have uk_2 := uk.cell2
      have ux_0 := ux.cell0
      have ux_1 := ux.cell1
      have ux_2 := ux.cell2
      go_wp2_with fail
      clear uk_0 uk_1 uk_2 ux_0 ux_1 ux_2
      refine (mul_int 20 (by decide) (by decide) _ _ (X ^ j) X wr hk hx Bk Bx).mono ?_
      rintro e w1 ⟨_,rfl,hk2,hb⟩
      rw [← Int.pow_succ] at hk2
      obtain ⟨bn,xn,pn,ln,cn,rfl⟩ := hk2.shape
      replace uk := uk.below hb uk.lt
      replace ux := ux.below hb ux.lt
      replace up := up.below hb up.lt
      replace uq := uq.below hb uq.lt
      replace ur := ur.below hb ur.lt
      replace hx := hx.below hb
      replace hp := hp.below hb
      replace hq := hq.below hb
      replace hr := hr.below hb
      replace hBw := hBw.trans (hb.mono hBw.size)
      clear hb hk Bk Bx
      have uk_0 := uk.cell0
      have uk_1 := uk.cell1
      have uk_2 := uk.cell2
      have fk_0 := uk.free 0
      have fk_1 := uk.free 1
      have fk_2 := uk.free 2
      replace hk2 := hk2.row3 uk (.bool bn) (.int .u64 xn) (.slice pn ln cn)
      replace hx := hx.row3 uk (.bool bn) (.int .u64 xn) (.slice pn ln cn)
      replace hp := hp.row3 uk (.bool bn) (.int .u64 xn) (.slice pn ln cn)
      replace hq := hq.row3 uk (.bool bn) (.int .u64 xn) (.slice pn ln cn)
      replace hr := hr.row3 uk (.bool bn) (.int .u64 xn) (.slice pn ln cn)
      replace ux := (((ux.other (a := ⟨aM6,0,none⟩) (by show aM1 ≠ aM6; omega) (.bool bn)).other (a := ⟨aM6,1,none⟩) (by show aM1 ≠ aM6; omega) (.int .u64 xn)).other (a := ⟨aM6,2,none⟩) (by show aM1 ≠ aM6; omega) (.slice pn ln cn))
      replace up := (((up.other (a := ⟨aM6,0,none⟩) (by show aM2 ≠ aM6; omega) (.bool bn)).other (a := ⟨aM6,1,none⟩) (by show aM2 ≠ aM6; omega) (.int .u64 xn)).other (a := ⟨aM6,2,none⟩) (by show aM2 ≠ aM6; omega) (.slice pn ln cn))
      replace uq := (((uq.other (a := ⟨aM6,0,none⟩) (by show aM3 ≠ aM6; omega) (.bool bn)).other (a := ⟨aM6,1,none⟩) (by show aM3 ≠ aM6; omega) (.int .u64 xn)).other (a := ⟨aM6,2,none⟩) (by show aM3 ≠ aM6; omega) (.slice pn ln cn))
      replace ur := (((ur.other (a := ⟨aM6,0,none⟩) (by show aM4 ≠ aM6; omega) (.bool bn)).other (a := ⟨aM6,1,none⟩) (by show aM4 ≠ aM6; omega) (.int .u64 xn)).other (a := ⟨aM6,2,none⟩) (by show aM4 ≠ aM6; omega) (.slice pn ln cn))
      have hB3 := (((hBw.setCell (p := ⟨aM6,0,none⟩) (by show w.heap.size ≤ aM6; omega) (.bool bn)).setCell (p := ⟨aM6,1,none⟩) (by show w.heap.size ≤ aM6; omega) (.int .u64 xn)).setCell (p := ⟨aM6,2,none⟩) (by show w.heap.size ≤ aM6; omega) (.slice pn ln cn))
      have uk3 := uk.set3 (.bool bn) (.int .u64 xn) (.slice pn ln cn)
      go_wp2
      exact ⟨⟨j + 1,bn,xn,pn,ln,cn,by have := Hlt.out; omega,by go_num,uk3,hk2,hx,hp,hq,hr,ux,up,uq,ur,hB3⟩,by have := Hlt.out; simp [intOf]; omega⟩
    · obtain rfl : j = N := by omega
      clear hj
      have Bhp : absI (X ^ j) < pw 20 := Int.lt_of_lt_of_le (ipow_bd SX j (by have := HN.out; omega)) (pw_mono (by have := HN.out; omega))
      have Bhq : absI (X ^ J) < pw 20 := Int.lt_of_lt_of_le (ipow_bd SX J (by have := HJ.out; omega)) (pw_mono (by have := HJ.out; omega))
      have E1 : X ^ j * X ^ J = X ^ (j + J) := (Int.pow_add _ _ _).symm
      go_wp2_with fail
      have zup := up.lt
      have zuq := uq.lt
      have zur := ur.lt
      have zuk := uk.lt
      have acc := Below.refl wr.heap.size wr
      try dsimp only [List.append]
      have csr : ∀ w',Below wr.heap.size wr w' → w'.cell? ⟨aM2,0,none⟩ = some (.bool bp) ∧ w'.cell? ⟨aM2,1,none⟩ = some (.int .u64 xp) ∧ w'.cell? ⟨aM2,2,none⟩ = some (.slice pp lp cp) ∧ w'.cell? ⟨aM3,0,none⟩ = some (.bool bq) ∧ w'.cell? ⟨aM3,1,none⟩ = some (.int .u64 xq) ∧ w'.cell? ⟨aM3,2,none⟩ = some (.slice pq lq cq) ∧ w'.cell? ⟨aM4,0,none⟩ = some (.bool br) ∧ w'.cell? ⟨aM4,1,none⟩ = some (.int .u64 xr) ∧ w'.cell? ⟨aM4,2,none⟩ = some (.slice pr lr cr) ∧ w'.cell? ⟨aM6,0,none⟩ = some (.bool bk) ∧ w'.cell? ⟨aM6,1,none⟩ = some (.int .u64 xk) ∧ w'.cell? ⟨aM6,2,none⟩ = some (.slice pk lk ck) := fun w' acc => ⟨(up.below acc zup).cell0,(up.below acc zup).cell1,(up.below acc zup).cell2,(uq.below acc zuq).cell0,(uq.below acc zuq).cell1,(uq.below acc zuq).cell2,(ur.below acc zur).cell0,(ur.below acc zur).cell1,(ur.below acc zur).cell2,(uk.below acc zuk).cell0,(uk.below acc zuk).cell1,(uk.below acc zuk).cell2⟩
      obtain ⟨up_0,up_1,up_2,uq_0,uq_1,uq_2,ur_0,ur_1,ur_2,uk_0,uk_1,uk_2⟩ := csr _ acc
      go_region_held3 (fun w' => w'.cell? ⟨aM2,0,none⟩ = some (.bool bp) ∧ w'.cell? ⟨aM2,1,none⟩ = some (.int .u64 xp) ∧ w'.cell? ⟨aM2,2,none⟩ = some (.slice pp lp cp) ∧ w'.cell? ⟨aM3,0,none⟩ = some (.bool bq) ∧ w'.cell? ⟨aM3,1,none⟩ = some (.int .u64 xq) ∧ w'.cell? ⟨aM3,2,none⟩ = some (.slice pq lq cq) ∧ w'.cell? ⟨aM4,0,none⟩ = some (.bool br) ∧ w'.cell? ⟨aM4,1,none⟩ = some (.int .u64 xr) ∧ w'.cell? ⟨aM4,2,none⟩ = some (.slice pr lr cr) ∧ w'.cell? ⟨aM6,0,none⟩ = some (.bool bk) ∧ w'.cell? ⟨aM6,1,none⟩ = some (.int .u64 xk) ∧ w'.cell? ⟨aM6,2,none⟩ = some (.slice pk lk ck))
        (first | with_reducible exact csr _ acc | with_reducible exact csr _ acc.drew)
        (first
          | (go_at_call 15; (first | (have q := known2_true wr.drew; (with_reducible refine q.mono ?_); clear q) | (have q := known2_true wr; (with_reducible refine q.mono ?_); clear q)); rintro e r0 ⟨rfl,hb⟩; (first | replace hb : Below wr.heap.size wr r0 := hb | replace hb := below_undrew (w := wr) hb); replace acc := below_acc acc acc.size hb; clear hb up_0 up_1 up_2 uq_0 uq_1 uq_2 ur_0 ur_1 ur_2 uk_0 uk_1 uk_2; obtain ⟨up_0,up_1,up_2,uq_0,uq_1,uq_2,ur_0,ur_1,ur_2,uk_0,uk_1,uk_2⟩ := csr _ acc)
          | (go_at_call 28; (with_reducible refine (mul_int 20 (by decide) (by decide) _ _ (X ^ j) (X ^ J) r0 (hp.below acc) (hq.below acc) Bhp Bhq).mono ?_); rintro e r1 ⟨vs1,rfl,s1,hb⟩; obtain ⟨bs1,xs1,ps1,ls1,cs1,rfl⟩ := s1.shape; replace acc := nx acc hb; clear hb up_0 up_1 up_2 uq_0 uq_1 uq_2 ur_0 ur_1 ur_2 uk_0 uk_1 uk_2; obtain ⟨up_0,up_1,up_2,uq_0,uq_1,uq_2,ur_0,ur_1,ur_2,uk_0,uk_1,uk_2⟩ := csr _ acc)
          | (go_at_call 30; (with_reducible refine (wcmp_alike _ _ ((X ^ j) * (X ^ J)) (X ^ (j + J)) r1 s1 (hr.below acc) E1).mono ?_); rintro e r2 ⟨rfl,hb⟩; replace acc := nx acc hb; clear hb s1 up_0 up_1 up_2 uq_0 uq_1 uq_2 ur_0 ur_1 ur_2 uk_0 uk_1 uk_2; obtain ⟨up_0,up_1,up_2,uq_0,uq_1,uq_2,ur_0,ur_1,ur_2,uk_0,uk_1,uk_2⟩ := csr _ acc)
          | (go_at_call 30; (with_reducible refine (wcmp_alike _ _ (X ^ j) (X ^ j) r2 (hk.below acc) (hp.below acc) rfl).mono ?_); rintro e r3 ⟨rfl,hb⟩; replace acc := nx acc hb; clear hb up_0 up_1 up_2 uq_0 uq_1 uq_2 ur_0 ur_1 ur_2 uk_0 uk_1 uk_2; obtain ⟨up_0,up_1,up_2,uq_0,uq_1,uq_2,ur_0,ur_1,ur_2,uk_0,uk_1,uk_2⟩ := csr _ acc))
      all_goals
        replace hx := hx.below acc
        replace hp := hp.below acc
        replace hq := hq.below acc
        replace hr := hr.below acc
        replace hk := hk.below acc
        replace ux := ux.below acc ux.lt
        replace up := up.below acc up.lt
        replace uq := uq.below acc uq.lt
        replace ur := ur.below acc ur.lt
        replace uk := uk.below acc uk.lt
        replace hBw := hBw.trans (acc.mono hBw.size)
        clear acc up_0 up_1 up_2 uq_0 uq_1 uq_2 ur_0 ur_1 ur_2 uk_0 uk_1 uk_2 csr
        go_wp2
        go_ret
        exact ⟨rfl,hBw⟩
end Go.Proofs.YtlkblgpekbeljaaGreatDoor
