/- DivAny -/
import Derived.Test.YtgccgacpifebbaaGreatDoorZb21
import Derived.Test.YtgccgacpifebbaaGreatDoorZb18
namespace Go.Proofs.YtgccgacpifebbaaGreatDoor
open Go.RowKit
set_option linter.unusedVariables false
theorem bits_nat (v : Value) (n : Int) (w : World) (h : IsNat w v n) : Calls Tryz.prog 55 #[v] w fun e w' => (∃ k : Nat,e = .returned (.int .i64 k) ∧ IsBits n k) ∧ Below w.heap.size w w' := by
  rcases h with ⟨wn,rfl⟩ | ⟨b,t,len,cap,l,rfl,ha,h2,hc,hl,hm,hw,hz,rfl⟩
  · refine (bits_word n wn w).mono ?_
    rintro e w' ⟨rfl,hb⟩
    exact ⟨⟨_,rfl,isBits_word wn⟩,hb⟩
  · refine (bits_many b t len cap l w ha h2 (by omega) hm hw).mono ?_
    rintro e w' ⟨rfl,hb⟩
    obtain ⟨k,rfl⟩ : ∃ k,len = k + 1 := ⟨len - 1,by omega⟩
    rw [Nat.add_sub_cancel] at hz ⊢
    refine ⟨⟨_,rfl,?_⟩,hb⟩
    have hwl := hw.getD k
    have hs := seg_bd hw 0 k (by omega)
    rw [← seg_all,seg_succ (by omega),Nat.zero_add,show k * 64 = 64 * k by omega]
    exact isBits_top (pw_two k) hs.1 hs.2 hz (isBits_word hwl) hwl.1
theorem bits_pos {n : Int} {k : Nat} (h : IsBits n k) (hn : 0 ≤ n) (h0 : n ≠ 0) : ((k : Int) == 0) = false := by
  have hk : k ≠ 0 := by
    rintro rfl
    have h1 := h.1
    have h2 : n < 1 := by simpa using h1
    omega
  simp; omega
theorem bits_le {n : Int} {k K : Nat} (h : IsBits n k) (hn : n < pw K) : k ≤ 64 * K := by
  by_cases hk : k ≤ 64 * K
  · exact hk
  · have h2 := h.2 (by omega)
    rw [pw_two] at hn
    have := two_pow_mono (a := 64 * K) (b := k - 1) (by omega)
    omega
set_option maxRecDepth 100000 in
set_option maxHeartbeats 2000000 in
theorem div_less (x1 : Int) (p1 : Option Addr) (l1 q1 : Nat) (x2 : Int) (p2 : Option Addr) (l2 q2 : Nat) (n m : Int) (w : World) (h1 : IsNat w (.agg #[.int .u64 x1,.slice p1 l1 q1]) n) (h2 : IsNat w (.agg #[.int .u64 x2,.slice p2 l2 q2]) m) (hlt : n < m) :
    Calls Tryz.prog 50 #[.agg #[.int .u64 x1,.slice p1 l1 q1],.agg #[.int .u64 x2,.slice p2 l2 q2]] w (RetDiv 0 n w) := by
  have e1 := eqnil
  have hbits := fun w' (hb : Below w.heap.size w w') => bits_nat _ m w' (h2.below hb)
  have hc := fun w' (hb : Below w.heap.size w w') => cmp_any _ _ n m w' (h1.below hb) (h2.below hb)
  have hd : cmpI n m < 0 := by rw [cmpI_lt hlt]; decide
  have hm0 : m ≠ 0 := by have := h1.nonneg; omega
  obtain ⟨d,hdd⟩ : ∃ d,cmpI n m = d := ⟨_,rfl⟩
  rw [hdd] at hc hd
  have Hbits := Lib.hid hbits
  have Hc := Lib.hid hc
  clear hdd hc hbits
  go_enter Tryz.func50,Tryz.ntmps50
  go_wp2_with fail
  refine (Hbits.out _ (by go_grown)).mono ?_
  rintro e w1 ⟨⟨k,rfl,hk⟩,hb1⟩
  have hz := bits_pos hk h2.nonneg hm0
  clear hk
  obtain ⟨hc1,hf1⟩ := bcell hb1
  have hB1 : Below w.heap.size w w1 := Below.trans (by go_grown) (hb1.mono (by simp; omega))
  go_wp2_with fail
  refine (Hc.out _ hB1).mono ?_
  rintro e w2 ⟨rfl,hb2⟩
  have hB2 := hb1.trans (hb2.mono hb1.size)
  obtain ⟨hc2,hf2⟩ := bcell hB2
  clear hc1 hf1 Hbits Hc
  obtain ⟨v0,v1,v2,v3,hB⟩ := boxes (w := w) (by simpa using hB2)
  clear hB2 hb1 hb2 hB1 hc2 hf2
  have c00 := v0.c0
  have c01 := v0.c1
  have c10 := v1.c0
  have c11 := v1.c1
  have c20 := v2.c0
  have c21 := v2.c1
  have c30 := v3.c0
  have c31 := v3.c1
  have f20 := v2.free 0
  have f21 := v2.free 1
  have f30 := v3.free 0
  have f31 := v3.free 1
  have g1 := h1.below hB
  go_wp2_with fail
  go_region
  go_wp2
  exact bodyPost_div Tryz.results50 rfl rfl rfl rfl
    (((v2.set (.int .u64 0) none 0 0).other (by omega) _).other (by omega) _).drew
    (((v3.other (by omega) _).other (by omega) _).set _ _ _ _).drew
    (IsNat.word ⟨by decide,by decide⟩) (((g1.two v2 _ _).two (((v3.other (by omega) _).other (by omega) _)) _ _).drew) (below_two (below_two hB (by omega) _ _) (by omega) _ _).drew
set_option maxRecDepth 100000 in
set_option maxHeartbeats 2000000 in
theorem div_mw (b1 t1 n1 c1 : Nat) (l1 : List Int) (m : Int) (w : World) (h1 : IsNat w (.agg #[.int .u64 0,.slice (some ⟨b1,0,none⟩) n1 c1]) (val (l1.take n1))) (h2 : IsNat w (.agg #[.int .u64 m,.slice none 0 0]) m) (ha1 : Arr w b1 t1 .u64 l1) (hl1 : n1 ≤ l1.length) (hm1 : n1 ≤ 4294967296) (hw1 : Words l1) (wm : Word m) (hm0 : m ≠ 0) (hge : ¬ val (l1.take n1) < m) :
    Calls Tryz.prog 50 #[.agg #[.int .u64 0,.slice (some ⟨b1,0,none⟩) n1 c1],.agg #[.int .u64 m,.slice none 0 0]] w (RetDiv (val (l1.take n1) / m) (val (l1.take n1) % m) w) := by
  have e1 := eqnil
  have hbits := fun w' (hb : Below w.heap.size w w') => bits_nat _ m w' (h2.below hb)
  have hc := fun w' (hb : Below w.heap.size w w') => cmp_any _ _ (val (l1.take n1)) m w' (h1.below hb) (h2.below hb)
  have hd : ¬ cmpI (val (l1.take n1)) m < 0 := by unfold cmpI; rw [if_neg hge]; split <;> omega
  obtain ⟨d,hdd⟩ : ∃ d,cmpI (val (l1.take n1)) m = d := ⟨_,rfl⟩
  rw [hdd] at hc hd
  have Hbits := Lib.hid hbits
  have Hc := Lib.hid hc
  clear hdd hc hbits
  go_enter Tryz.func50,Tryz.ntmps50
  go_wp2_with fail
  refine (Hbits.out _ (by go_grown)).mono ?_
  rintro e w1 ⟨⟨k,rfl,hk⟩,hb1⟩
  have hz := bits_pos hk h2.nonneg hm0
  clear hk
  obtain ⟨hc1,hf1⟩ := bcell hb1
  have hB1 : Below w.heap.size w w1 := Below.trans (by go_grown) (hb1.mono (by simp; omega))
  go_wp2_with fail
  refine (Hc.out _ hB1).mono ?_
  rintro e w2 ⟨rfl,hb2⟩
  have hB2 := hb1.trans (hb2.mono hb1.size)
  obtain ⟨hc2,hf2⟩ := bcell hB2
  clear hc1 hf1 Hbits Hc
  obtain ⟨v0,v1,v2,v3,hB⟩ := boxes (w := w) (by simpa using hB2)
  clear hB2 hb1 hb2 hB1 hc2 hf2
  have c00 := v0.c0
  have c01 := v0.c1
  have c10 := v1.c0
  have c11 := v1.c1
  have c20 := v2.c0
  have c21 := v2.c1
  have c30 := v3.c0
  have c31 := v3.c1
  have f20 := v2.free 0
  have f21 := v2.free 1
  have f30 := v3.free 0
  have f31 := v3.free 1
  have k1 := ha1.lt
  have dw := divByWord_any b1 t1 n1 c1 l1 m w2 (ha1.below hB k1) hl1 hm1 hw1 wm hm0
  go_wp2_with fail
  refine dw.mono ?_
  rintro e w3 ⟨x,y,rfl,hx,hy,hb3⟩
  obtain ⟨xa,xp,xl,xc,rfl⟩ := hx.shape
  obtain ⟨ya,yp,yl,yc,rfl⟩ := hy.shape
  have acc := hB.trans (hb3.mono hB.size)
  have u2 := v2.below hb3 v2.lt
  have u3 := v3.below hb3 v3.lt
  have z2 := v2.lt
  have z3 := v3.lt
  clear c00 c01 c10 c11 c20 c21 c30 c31 f20 f21 f30 f31 dw
  have c20 := u2.c0
  have c21 := u2.c1
  have c30 := u3.c0
  have c31 := u3.c1
  have f20 := u2.free 0
  have f21 := u2.free 1
  have f30 := u3.free 0
  have f31 := u3.free 1
  go_wp2_with fail
  go_region
  all_goals
    go_wp2
    have y3 := (u3.other (d := w.heap.size + 1 + 1) (i := 0) (by omega) (.int .u64 xa)).other (d := w.heap.size + 1 + 1) (i := 1) (by omega) (.slice xp xl xc)
    have y2 := ((u2.set (.int .u64 xa) xp xl xc).other (d := w.heap.size + 1 + 1 + 1) (i := 0) (by omega) (.int .u64 ya)).other (d := w.heap.size + 1 + 1 + 1) (i := 1) (by omega) (.slice yp yl yc)
    have t3 := ((y3.set (.int .u64 ya) yp yl yc).other (d := w.heap.size + 1 + 1) (i := 0) (by omega) (.int .u64 xa)).other (d := w.heap.size + 1 + 1) (i := 1) (by omega) (.slice xp xl xc)
    have t2 := ((y2.set (.int .u64 xa) xp xl xc).other (d := w.heap.size + 1 + 1 + 1) (i := 0) (by omega) (.int .u64 ya)).other (d := w.heap.size + 1 + 1 + 1) (i := 1) (by omega) (.slice yp yl yc)
    have gx := (((hx.two u2 (.int .u64 xa) (.slice xp xl xc)).two y3 (.int .u64 ya) (.slice yp yl yc)).two y2 (.int .u64 xa) (.slice xp xl xc)).two t3 (.int .u64 ya) (.slice yp yl yc)
    have gy := (((hy.two u2 (.int .u64 xa) (.slice xp xl xc)).two y3 (.int .u64 ya) (.slice yp yl yc)).two y2 (.int .u64 xa) (.slice xp xl xc)).two t3 (.int .u64 ya) (.slice yp yl yc)
    exact bodyPost_div Tryz.results50 rfl rfl rfl rfl t2.drew (t3.set (.int .u64 ya) yp yl yc).drew gx.drew gy.drew
      (below_two (below_two (below_two (below_two acc (by omega) _ _) (by omega) _ _) (by omega) _ _) (by omega) _ _).drew
set_option maxRecDepth 100000 in
set_option maxHeartbeats 2000000 in
theorem div_mm (b1 n1 c1 b2 n2 c2 : Nat) (n m : Int) (w : World) (h1 : IsNat w (.agg #[.int .u64 0,.slice (some ⟨b1,0,none⟩) n1 c1]) n) (h2 : IsNat w (.agg #[.int .u64 0,.slice (some ⟨b2,0,none⟩) n2 c2]) m) (hm0 : m ≠ 0) (hge : ¬ n < m) (hlong : ∀ W,Below w.heap.size w W → Calls Tryz.prog 75 #[.agg #[.int .u64 0,.slice (some ⟨b1,0,none⟩) n1 c1],.agg #[.int .u64 0,.slice (some ⟨b2,0,none⟩) n2 c2]] W (RetTwo (n / m) (n % m) W)) :
    Calls Tryz.prog 50 #[.agg #[.int .u64 0,.slice (some ⟨b1,0,none⟩) n1 c1],.agg #[.int .u64 0,.slice (some ⟨b2,0,none⟩) n2 c2]] w (RetDiv (n / m) (n % m) w) := by
  have e1 := eqnil
  have hbits := fun w' (hb : Below w.heap.size w w') => bits_nat _ m w' (h2.below hb)
  have hc := fun w' (hb : Below w.heap.size w w') => cmp_any _ _ n m w' (h1.below hb) (h2.below hb)
  have hd : ¬ cmpI n m < 0 := by unfold cmpI; rw [if_neg hge]; split <;> omega
  obtain ⟨d,hdd⟩ : ∃ d,cmpI n m = d := ⟨_,rfl⟩
  rw [hdd] at hc hd
  have Hbits := Lib.hid hbits
  have Hc := Lib.hid hc
  clear hdd hc hbits
  go_enter Tryz.func50,Tryz.ntmps50
  go_wp2_with fail
  refine (Hbits.out _ (by go_grown)).mono ?_
  rintro e w1 ⟨⟨k,rfl,hk⟩,hb1⟩
  have hz := bits_pos hk h2.nonneg hm0
  clear hk
  obtain ⟨hc1,hf1⟩ := bcell hb1
  have hB1 : Below w.heap.size w w1 := Below.trans (by go_grown) (hb1.mono (by simp; omega))
  go_wp2_with fail
  refine (Hc.out _ hB1).mono ?_
  rintro e w2 ⟨rfl,hb2⟩
  have hB2 := hb1.trans (hb2.mono hb1.size)
  obtain ⟨hc2,hf2⟩ := bcell hB2
  clear hc1 hf1 Hbits Hc
  obtain ⟨v0,v1,v2,v3,hB⟩ := boxes (w := w) (by simpa using hB2)
  clear hB2 hb1 hb2 hB1 hc2 hf2
  have c00 := v0.c0
  have c01 := v0.c1
  have c10 := v1.c0
  have c11 := v1.c1
  have c20 := v2.c0
  have c21 := v2.c1
  have c30 := v3.c0
  have c31 := v3.c1
  have f20 := v2.free 0
  have f21 := v2.free 1
  have f30 := v3.free 0
  have f31 := v3.free 1
  have dw := hlong w2 hB
  go_wp2_with fail
  refine dw.mono ?_
  rintro e w3 ⟨x,y,rfl,hx,hy,hb3⟩
  obtain ⟨xa,xp,xl,xc,rfl⟩ := hx.shape
  obtain ⟨ya,yp,yl,yc,rfl⟩ := hy.shape
  have acc := hB.trans (hb3.mono hB.size)
  have u2 := v2.below hb3 v2.lt
  have u3 := v3.below hb3 v3.lt
  have z2 := v2.lt
  have z3 := v3.lt
  clear c00 c01 c10 c11 c20 c21 c30 c31 f20 f21 f30 f31 dw
  have c20 := u2.c0
  have c21 := u2.c1
  have c30 := u3.c0
  have c31 := u3.c1
  have f20 := u2.free 0
  have f21 := u2.free 1
  have f30 := u3.free 0
  have f31 := u3.free 1
  go_wp2_with fail
  go_region
  all_goals
    go_wp2
    have y3 := (u3.other (d := w.heap.size + 1 + 1) (i := 0) (by omega) (.int .u64 xa)).other (d := w.heap.size + 1 + 1) (i := 1) (by omega) (.slice xp xl xc)
    have y2 := ((u2.set (.int .u64 xa) xp xl xc).other (d := w.heap.size + 1 + 1 + 1) (i := 0) (by omega) (.int .u64 ya)).other (d := w.heap.size + 1 + 1 + 1) (i := 1) (by omega) (.slice yp yl yc)
    have t3 := ((y3.set (.int .u64 ya) yp yl yc).other (d := w.heap.size + 1 + 1) (i := 0) (by omega) (.int .u64 xa)).other (d := w.heap.size + 1 + 1) (i := 1) (by omega) (.slice xp xl xc)
    have t2 := ((y2.set (.int .u64 xa) xp xl xc).other (d := w.heap.size + 1 + 1 + 1) (i := 0) (by omega) (.int .u64 ya)).other (d := w.heap.size + 1 + 1 + 1) (i := 1) (by omega) (.slice yp yl yc)
    have gx := (((hx.two u2 (.int .u64 xa) (.slice xp xl xc)).two y3 (.int .u64 ya) (.slice yp yl yc)).two y2 (.int .u64 xa) (.slice xp xl xc)).two t3 (.int .u64 ya) (.slice yp yl yc)
    have gy := (((hy.two u2 (.int .u64 xa) (.slice xp xl xc)).two y3 (.int .u64 ya) (.slice yp yl yc)).two y2 (.int .u64 xa) (.slice xp xl xc)).two t3 (.int .u64 ya) (.slice yp yl yc)
    exact bodyPost_div Tryz.results50 rfl rfl rfl rfl t2.drew (t3.set (.int .u64 ya) yp yl yc).drew gx.drew gy.drew
      (below_two (below_two (below_two (below_two acc (by omega) _ _) (by omega) _ _) (by omega) _ _) (by omega) _ _).drew
set_option maxRecDepth 100000 in
set_option maxHeartbeats 2000000 in
theorem divByLong_any (b1 t1 n1 c1 b2 t2 n2 c2 : Nat) (l1 l2 : List Int) (w : World) (ha1 : Arr w b1 t1 .u64 l1) (ha2 : Arr w b2 t2 .u64 l2) (hp1 : 2 ≤ n1) (hc1 : n1 ≤ c1) (hl1 : c1 ≤ l1.length) (hm1 : n1 ≤ 1048576) (hw1 : Words l1) (hz1 : l1.getD (n1 - 1) 0 ≠ 0)
    (hp2 : 2 ≤ n2) (hc2 : n2 ≤ c2) (hl2 : c2 ≤ l2.length) (hm2 : n2 ≤ 200) (hw2 : Words l2) (hz2 : l2.getD (n2 - 1) 0 ≠ 0) (hge : ¬ val (l1.take n1) < val (l2.take n2)) :
    Calls Tryz.prog 75 #[.agg #[.int .u64 0,.slice (some ⟨b1,0,none⟩) n1 c1],.agg #[.int .u64 0,.slice (some ⟨b2,0,none⟩) n2 c2]] w (RetTwo (val (l1.take n1) / val (l2.take n2)) (val (l1.take n1) % val (l2.take n2)) w) := by
  have h1 : IsNat w (.agg #[.int .u64 0,.slice (some ⟨b1,0,none⟩) n1 c1]) (val (l1.take n1)) := .inr ⟨b1,t1,n1,c1,l1,rfl,ha1,hp1,hc1,hl1,by omega,hw1,hz1,rfl⟩
  have h2 : IsNat w (.agg #[.int .u64 0,.slice (some ⟨b2,0,none⟩) n2 c2]) (val (l2.take n2)) := .inr ⟨b2,t2,n2,c2,l2,rfl,ha2,hp2,hc2,hl2,by omega,hw2,hz2,rfl⟩
  have hlt2 : val (l2.take n2) < pw n2 := by have := (val_bd (hw2.take n2)).2; rwa [List.length_take,Nat.min_eq_left (by omega)] at this
  have hlt1 : val (l1.take n1) < pw n1 := by have := (val_bd (hw1.take n1)).2; rwa [List.length_take,Nat.min_eq_left (by omega)] at this
  have hnn : n2 ≤ n1 := len_le hw2 (by omega) (by omega) hz2 (by omega)
  have hb1 := fun w' (hb : Below w.heap.size w w') => bits_nat _ _ w' (h1.below hb)
  have hb2 := fun w' (hb : Below w.heap.size w w') => bits_nat _ _ w' (h2.below hb)
  have hc := fun w' (hb : Below w.heap.size w w') => cmp_any _ _ _ _ w' (h1.below hb) (h2.below hb)
  have dw := fun w' (hb : Below w.heap.size w w') => divByWords_any b1 t1 n1 c1 b2 t2 n2 c2 l1 l2 w' (ha1.below hb ha1.lt) (ha2.below hb ha2.lt) (by omega) (by omega) hp2 hnn hm1 hw1 hw2 hz2
  have k1 := ha1.lt
  have k2 := ha2.lt
  generalize val (l1.take n1) = N at *
  generalize val (l2.take n2) = M at *
  have hd : ¬ cmpI N M < 0 := by unfold cmpI; rw [if_neg hge]; split <;> omega
  obtain ⟨d,hdd⟩ : ∃ d,cmpI N M = d := ⟨_,rfl⟩
  rw [hdd] at hc hd
  have Hb1 := Lib.hid hb1
  have Hb2 := Lib.hid hb2
  have Hc := Lib.hid hc
  have Dw := Lib.hid dw
  clear hdd hc hb1 hb2 dw h1 h2
  go_enter Tryz.func75,Tryz.ntmps75
  go_wp2_with fail
  refine (Hb2.out _ (by go_grown)).mono ?_
  rintro e w1 ⟨⟨kb,rfl,hkb⟩,hb1⟩
  obtain ⟨v0,v1,v2,v3,hB⟩ := boxes (w := w) (by simpa using hb1)
  clear hb1
  have c00 := v0.c0
  have c01 := v0.c1
  have c10 := v1.c0
  have c11 := v1.c1
  have bkb := bits_le hkb hlt2
  go_wp2_with fail
  refine (Hb1.out _ hB).mono ?_
  rintro e w2 ⟨⟨ka,rfl,hka⟩,hb2⟩
  have bka := bits_le hka hlt1
  replace v0 := v0.below hb2 v0.lt
  replace v1 := v1.below hb2 v1.lt
  replace v2 := v2.below hb2 v2.lt
  replace v3 := v3.below hb2 v3.lt
  replace hB := hB.trans (hb2.mono hB.size)
  clear hb2 c00 c01 c10 c11
  have c00 := v0.c0
  have c01 := v0.c1
  have c10 := v1.c0
  have c11 := v1.c1
  go_wp2_with fail
  refine (Hc.out _ hB).mono ?_
  rintro e w3 ⟨rfl,hb3⟩
  replace v0 := v0.below hb3 v0.lt
  replace v1 := v1.below hb3 v1.lt
  replace v2 := v2.below hb3 v2.lt
  replace v3 := v3.below hb3 v3.lt
  replace hB := hB.trans (hb3.mono hB.size)
  clear hb3 c00 c01 c10 c11
  have c00 := v0.c0
  have c01 := v0.c1
  have c10 := v1.c0
  have c11 := v1.c1
  have hmin : min ((ka : Int) - (kb : Int) + 1) (kb : Int) ≤ 12800 := by omega
  go_wp2_with fail
  refine (Dw.out _ hB).mono ?_
  rintro e w4 ⟨x,y,rfl,hx,hy,hb4⟩
  obtain ⟨xa,xp,xl,xc,rfl⟩ := hx.shape
  obtain ⟨ya,yp,yl,yc,rfl⟩ := hy.shape
  have acc := hB.trans (hb4.mono hB.size)
  have z2 := v2.lt
  have z3 := v3.lt
  have u2 := v2.below hb4 z2
  have u3 := v3.below hb4 z3
  clear c00 c01 c10 c11 hb4
  have c20 := u2.c0
  have c21 := u2.c1
  have c30 := u3.c0
  have c31 := u3.c1
  have f20 := u2.free 0
  have f21 := u2.free 1
  have f30 := u3.free 0
  have f31 := u3.free 1
  go_wp2_with fail
  have y3 := (u3.other (d := w.heap.size + 1 + 1) (i := 0) (by omega) (.int .u64 xa)).other (d := w.heap.size + 1 + 1) (i := 1) (by omega) (.slice xp xl xc)
  have y2 := ((u2.set (.int .u64 xa) xp xl xc).other (d := w.heap.size + 1 + 1 + 1) (i := 0) (by omega) (.int .u64 ya)).other (d := w.heap.size + 1 + 1 + 1) (i := 1) (by omega) (.slice yp yl yc)
  exact bodyPost_two Tryz.results75 rfl rfl rfl y2 (y3.set (.int .u64 ya) yp yl yc) ((hx.two u2 _ _).two y3 _ _) ((hy.two u2 _ _).two y3 _ _) (below_two (below_two acc (by omega) _ _) (by omega) _ _)
theorem div_any (K : Nat) (hK : K ≤ 200) (v1 v2 : Value) (n m : Int) (w : World) (h1 : IsNat w v1 n) (h2 : IsNat w v2 m) (hn : n < pw K) (hm0 : m ≠ 0) : Calls Tryz.prog 50 #[v1,v2] w (RetDiv (n / m) (n % m) w) := by
  have n0 := h1.nonneg
  have m0 := h2.nonneg
  obtain ⟨x1,p1,l1,q1,e1⟩ := h1.shape
  obtain ⟨x2,p2,l2,q2,e2⟩ := h2.shape
  by_cases hlt : n < m
  · rw [Int.ediv_eq_zero_of_lt n0 hlt,Int.emod_eq_of_lt n0 hlt]
    subst e1 e2
    exact div_less x1 p1 l1 q1 x2 p2 l2 q2 n m w h1 h2 hlt
  · have g1 := h1
    have g2 := h2
    rcases h1 with ⟨wn,rfl⟩ | ⟨b1,t1,n1,c1,k1,rfl,ha1,hp1,hc1,hl1,hb1,hw1,hz1,rfl⟩
    · have e := h2.one (by unfold Word at wn; omega)
      subst e
      exact div_above n m wn ⟨m0,by unfold Word at wn; omega⟩ hm0 hlt w
    · have L1 := len_le hw1 (by omega) (by omega) hz1 hn
      rcases h2 with ⟨wm,rfl⟩ | ⟨b2,t2,n2,c2,k2,rfl,ha2,hp2,hc2,hl2,hb2,hw2,hz2,rfl⟩
      · exact div_mw b1 t1 n1 c1 k1 m w g1 g2 ha1 (by omega) (by omega) hw1 wm hm0 hlt
      · have L2 := len_le hw2 (by omega) (by omega) hz2 (K := K) (by omega)
        exact div_mm b1 n1 c1 b2 n2 c2 _ _ w g1 g2 hm0 hlt fun W hb => divByLong_any b1 t1 n1 c1 b2 t2 n2 c2 k1 k2 W (ha1.below hb ha1.lt) (ha2.below hb ha2.lt) hp1 hc1 hl1 (by omega) hw1 hz1 hp2 hc2 hl2 (by omega) hw2 hz2 hlt
/-- Of a divisor of 0 there is nothing. -/
theorem div_zero (v1 : Value) (n : Int) (w : World) (h1 : IsNat w v1 n) : Calls Tryz.prog 50 #[v1,.agg #[.int .u64 0,.slice none 0 0]] w fun e w' => e = .returned (.tuple #[.agg #[.int .u64 0,.slice none 0 0],.agg #[.int .u64 0,.slice none 0 0],.bool false]) ∧ Below w.heap.size w w' := by
  obtain ⟨x1,p1,l1,q1,rfl⟩ := h1.shape
  have e0 : Lib.bitLen (0 : Int).toNat = 0 := Lib.bitLenAux_zero 64
  have hb := bits_word 0 ⟨by decide,by decide⟩
  rw [e0] at hb
  go_enter Tryz.func50,Tryz.ntmps50
  go_wp2_with fail
  refine (hb _).mono ?_
  rintro e w1 ⟨rfl,hb1⟩
  obtain ⟨v0,v1,v2,v3,hB⟩ := boxes (w := w) (by simpa using hb1)
  have c20 := v2.c0
  have c21 := v2.c1
  have c30 := v3.c0
  have c31 := v3.c1
  have f20 := v2.free 0
  have f21 := v2.free 1
  have f30 := v3.free 0
  have f31 := v3.free 1
  go_wp2_with fail
  have y3 := (v3.other (d := w.heap.size + 1 + 1) (i := 0) (by omega) (.int .u64 0)).other (d := w.heap.size + 1 + 1) (i := 1) (by omega) (.slice none 0 0)
  have y2 := ((v2.set (.int .u64 0) none 0 0).other (d := w.heap.size + 1 + 1 + 1) (i := 0) (by omega) (.int .u64 0)).other (d := w.heap.size + 1 + 1 + 1) (i := 1) (by omega) (.slice none 0 0)
  have z3 := y3.set (.int .u64 0) none 0 0
  refine bodyPost_ret (v := .tuple #[.agg #[.int .u64 0,.slice none 0 0],.agg #[.int .u64 0,.slice none 0 0],.bool false]) ?_ rfl ⟨rfl,below_two (below_two hB (by omega) _ _) (by omega) _ _⟩
  simp [results,Tryz.results50,asAddr,run_loadVar_nat y2,run_loadVar_nat z3]
end Go.Proofs.YtgccgacpifebbaaGreatDoor
