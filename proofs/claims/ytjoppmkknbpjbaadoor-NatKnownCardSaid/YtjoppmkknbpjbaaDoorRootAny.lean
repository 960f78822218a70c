/- Contract of (Nat).Root, whatever the number. Contracts of (Nat).Root and (Nat).Shift, whatever the number. -/
import Derived.Test.YtjoppmkknbpjbaaDoorUp
import Derived.Test.YtjoppmkknbpjbaaDoorCloneAt
import Derived.Test.YtjoppmkknbpjbaaDoorDivAny
import Derived.Test.YtjoppmkknbpjbaaDoorKnown
import Derived.Deep.LoopGhost
namespace Go.Proofs.YtjoppmkknbpjbaaDoor
open Go.RowKit
set_option linter.unusedVariables false

/-- The root of n is answered. -/
def RootRet (n : Int) (w : World) (e : Ending) (w' : World) : Prop := ∃ r, IsRoot n r ∧ RetNat r w e w'
theorem bodyPost_root {fn : Func} {w w' : World} {a : Act} {n r : Int} (hr : IsRoot n r) (h : bodyPost Tryd.prog fn (RetNat r w) .ret a w') : bodyPost Tryd.prog fn (RootRet n w) .ret a w' := by
  obtain ⟨hd, v, hv, hp⟩ := h
  exact ⟨hd, v, hv, r, hr, hp⟩
/-- What stands at the head of a round: the boxes of the number, of what is answered, of the root so far. -/
structure RootAt' (w : World) (n s : Int) (p : Option Addr) (m q : Nat) (K c : Nat) (R : Int) (wr : World) : Prop where
  num : Var wr w.heap.size (.int .u64 0) (.slice p m q)
  out : Var wr (w.heap.size + 1) (.int .u64 0) (.slice none 0 0)
  below : Below w.heap.size w wr
  at_ : w.heap.size + 1 < c
  pos : 0 < R
  ge : s ≤ R
  lt : R < pw (K + 1)
  root : ∃ xa xp xl xc, Var wr c (.int .u64 xa) (.slice xp xl xc) ∧ IsNat wr (.agg #[.int .u64 xa, .slice xp xl xc]) R
theorem pw_double {n : Int} {K : Nat} (h : n < pw K) : n + n < pw (K + 1) := by
  have := pw_pos K
  simp only [pw]; omega

theorem down_1 (K : Nat) (hK2 : K ≤ 1048576) (v : Value) (n : Int) (w : World) (h : IsNat w v n) (hn : n < pw K) : Calls Tryd.prog 29 #[v, .int .i64 1] w (RetNat (n / 2) w) := by
  have := down_any K hK2 v n 1 (by decide) w h hn
  exact this
theorem cmp_below (v1 v2 : Value) (n m : Int) (w : World) (h1 : IsNat w v1 n) (h2 : IsNat w v2 m) (hlt : n < m) :
    Calls Tryd.prog 14 #[v1, v2] w fun e w' => e = .returned (.int .i64 (-1)) ∧ Below w.heap.size w w' := by
  have := cmp_any v1 v2 n m w h1 h2
  rw [cmpI_lt hlt] at this
  exact this
theorem cmp_notless (v1 v2 : Value) (n m : Int) (w : World) (h1 : IsNat w v1 n) (h2 : IsNat w v2 m) (hge : ¬ n < m) :
    Calls Tryd.prog 14 #[v1, v2] w fun e w' => (∃ d, e = .returned (.int .i64 d) ∧ 0 ≤ d) ∧ Below w.heap.size w w' := by
  refine (cmp_any v1 v2 n m w h1 h2).mono ?_
  rintro e w' ⟨rfl, hb⟩
  exact ⟨⟨_, rfl, by unfold cmpI; rw [if_neg hge]; split <;> omega⟩, hb⟩
set_option maxRecDepth 100000 in
set_option maxHeartbeats 2000000 in
theorem root_many (K : Nat) (hK1 : 1 ≤ K) (hK : K ≤ 190) (a1 : Addr) (m1 k1 : Nat) (n : Int) (w : World) (h : IsNat w (.agg #[.int .u64 0, .slice (some a1) m1 k1]) n) (hn : n < pw K) (hbig : 18446744073709551616 ≤ n)
    (ih : ∀ v' n' w', IsNat w' v' n' → n' < n → Calls Tryd.prog 12 #[v'] w' (RootRet n' w')) :
    Calls Tryd.prog 12 #[.agg #[.int .u64 0, .slice (some a1) m1 k1]] w (RootRet n w) := by
  have e1 := eqnil
  have hn0 := h.nonneg
  obtain ⟨s, hs⟩ := isRoot_exists hn0
  have hW : Below w.heap.size w ((w.alloc (.cells #[.int .u64 0, .slice (some a1) m1 k1] 25)).alloc (.cells #[.int .u64 0, .slice none 0 0] 25)) := by go_grown
  have v0 : Var ((w.alloc (.cells #[.int .u64 0, .slice (some a1) m1 k1] 25)).alloc (.cells #[.int .u64 0, .slice none 0 0] 25)) w.heap.size (.int .u64 0) (.slice (some a1) m1 k1) := (Var.new w w.heap.size _ _ _ _ rfl).alloc _
  have v1 : Var ((w.alloc (.cells #[.int .u64 0, .slice (some a1) m1 k1] 25)).alloc (.cells #[.int .u64 0, .slice none 0 0] 25)) (w.heap.size + 1) (.int .u64 0) (.slice none 0 0) := Var.new (w.alloc _) _ _ _ _ _ (by simp)
  have hs1 : 1 ≤ s := by
    apply Int.le_of_not_gt
    intro g
    obtain rfl : s = 0 := by have := hs.1; omega
    have := hs.2.2
    omega
  have Hs := Lib.hid hs
  have Hn := Lib.hid hn
  have Hbig := Lib.hid hbig
  clear hs hn hbig
  go_enter Tryd.func12, Tryd.ntmps12
  go_wp2_with fail
  generalize ((w.alloc (.cells #[.int .u64 0, .slice (some a1) m1 k1] 25)).alloc (.cells #[.int .u64 0, .slice none 0 0] 25)) = W at hW v0 v1 ⊢
  refine (bits_nat _ n W (h.below hW)).mono ?_
  rintro e w1 ⟨⟨k, rfl, hk⟩, hb1⟩
  obtain ⟨hh, hhd⟩ : ∃ hh, k / 4 = hh := ⟨_, rfl⟩
  obtain ⟨h2, hh2⟩ : ∃ h2, 2 * hh = h2 := ⟨_, rfl⟩
  have kb : k ≤ 64 * K := bits_le hk Hn.out
  have klo : 65 ≤ k := by
    apply Nat.le_of_not_lt
    intro g
    have g1 := hk.1
    have g2 := two_pow_mono (show k ≤ 64 by omega)
    have g3 : (2 : Int) ^ 64 = 18446744073709551616 := by decide
    have := Hbig.out
    omega
  have hTn : (2 : Int) ^ h2 ≤ n := Int.le_trans (two_pow_mono (show h2 ≤ k - 1 by omega)) (hk.2 (by omega))
  have hTT : (2 : Int) ^ h2 = 2 ^ hh * 2 ^ hh := by rw [← Int.pow_add]; congr 1; omega
  have hlt : n / 2 ^ h2 < n := by
    refine Int.ediv_lt_self_of_pos_of_ne_one (by have := Hbig.out; omega) ?_
    have := two_pow_mono (show 1 ≤ h2 by omega)
    omega
  have d1 : (k : Int) / 4 = (hh : Int) := by omega
  have d2 : 2 * (hh : Int) = (h2 : Int) := by omega
  have d3 : (0 : Int) ≤ hh := by omega
  have d4 : (hh : Int) ≤ 16384 := by omega
  have d5 : (h2 : Int) ≤ 32768 := by omega
  have u0 := v0.below hb1 v0.lt
  have u1 := v1.below hb1 v1.lt
  have hB1 := hW.trans (hb1.mono hW.size)
  have HTn := Lib.hid hTn
  have HTT := Lib.hid hTT
  have Hlt := Lib.hid hlt
  have hh3 : h2 ≤ 67108864 := by omega
  have hh4 : hh ≤ 67108864 := by omega
  have c00 := u0.c0
  have c01 := u0.c1
  have dn := down_any K (by omega) _ n h2 hh3 w1 (h.below hB1) Hn.out
  clear hb1 v0 v1 hW hTn hTT hlt hhd hh2 hk kb klo
  go_wp2_with fail
  refine dn.mono ?_
  rintro e w2 ⟨x2, rfl, hx2, hb2⟩
  have rr := ih x2 _ w2 hx2 Hlt.out
  go_wp2_with fail
  refine rr.mono ?_
  rintro e w3 ⟨r, hr, x3, rfl, hx3, hb3⟩
  have hR1 := newton_start Hs.out (T := 2 ^ hh) (Int.pow_pos (by decide)) (by rw [← HTT.out]; exact hr)
  have hR2 := newton_first hn0 (T := 2 ^ hh) (Int.pow_pos (by decide)) (by rw [← HTT.out]; exact HTn.out) (by rw [← HTT.out]; exact hr)
  have hr0 := hr.1
  have hrn := hr.le
  have Hr1 := Lib.hid hR1
  have Hr2 := Lib.hid hR2
  have Hr := Lib.hid hr
  clear hR1 hR2 hr dn rr
  go_wp2_with fail
  refine (of_any 1 _).mono ?_
  rintro e w4 ⟨rfl, hb4⟩
  have ad := add_any (K + 1) (by omega) x3 _ r 1 w4 (hx3.below hb4) (IsNat.word ⟨by decide, by decide⟩) (by have := Hlt.out; have := pw_double Hn.out; omega) (by have := pw_double Hn.out; have := Hbig.out; omega)
  go_wp2_with fail
  refine ad.mono ?_
  rintro e w5 ⟨x5, rfl, hx5, hb5⟩
  have upc := up_any (K + 1) (by omega) (by omega) x5 (r + 1) hh hh4 w5 hx5 (by have := Hlt.out; have := pw_double Hn.out; have := Hbig.out; omega)
  go_wp2_with fail
  refine upc.mono ?_
  rintro e w6 ⟨x6, rfl, hx6, hb6⟩
  clear ad upc
  obtain ⟨xa, xp, xl, xc, rfl⟩ := hx6.shape
  have acc := below_acc (below_acc (below_acc (below_acc hb2 hb2.size hb3) (by have := hb2.size; have := hb3.size; omega) hb4) (by have := hb2.size; have := hb3.size; have := hb4.size; omega) hb5) (by have := hb2.size; have := hb3.size; have := hb4.size; have := hb5.size; omega) hb6
  have y0 := u0.below acc u0.lt
  have y1 := u1.below acc u1.lt
  have hB6 := hB1.trans (acc.mono hB1.size)
  obtain ⟨R, hR⟩ : ∃ R, (r + 1) * 2 ^ hh = R := ⟨_, rfl⟩
  have Hd := Lib.hid hR
  have start : RootAt' w n s (some a1) m1 k1 K w6.heap.size R (w6.alloc (.cells #[.int .u64 xa, .slice xp xl xc] 25)) :=
    ⟨y0.alloc _, y1.alloc _, hB6.alloc hB6.size _, y1.lt, by have := Hr1.out; have := Hs.out.1; have := Hd.out; omega, by have := Hr1.out; have := Hd.out; omega, by have := Hr2.out; have := pw_double Hn.out; have := Hd.out; omega, xa, xp, xl, xc, Var.new w6 _ _ _ _ _ rfl, by rw [← hR]; exact hx6.below (by go_grown)⟩
  clear hR Hd hx6 hx5 hx3 hx2 hb2 hb3 hb4 hb5 hb6 y0 y1 hB6 acc u0 u1 hB1 c00 c01 Hr1 Hr2 Hr
  go_wp2_with fail
  generalize (w6.alloc (.cells #[.int .u64 xa, .slice xp xl xc] 25)) = w7 at start ⊢
  generalize w6.heap.size = c at start ⊢
  go_loopg [5] R.toNat (fun g u wr => ∃ R, RootAt' w n s (some a1) m1 k1 K c R wr ∧ g = R.toNat)
  case atStart => exact ⟨R, start, rfl⟩
  case round =>
    obtain ⟨R, hrt, hgk⟩ := hrel
    have Hgk := Lib.hid hgk
    clear hgk start
    obtain ⟨q0, q1, hb, hat, hpos, hge, hlt, xa, xp, xl, xc, qr, hr⟩ := hrt
    have c00 := q0.c0
    have c01 := q0.c1
    have cr0 := qr.c0
    have cr1 := qr.c1
    have dv := div_any 200 (Nat.le_refl _) _ _ n R wr (h.below hb) hr (Int.lt_of_lt_of_le Hn.out (pw_mono (by omega))) (by omega)
    go_wp2_with fail
    refine dv.mono ?_
    rintro e wa ⟨z, zr, rfl, hz, hzr, hba⟩
    obtain ⟨za, zp, zl, zc, rfl⟩ := hz.shape
    obtain ⟨ya, yp, yl, yc, rfl⟩ := hzr.shape
    clear dv c00 c01 cr0 cr1
    have p0 := q0.below hba q0.lt
    have p1 := q1.below hba q1.lt
    have pr := qr.below hba qr.lt
    have hB : Below w.heap.size w wa := hb.trans (hba.mono hb.size)
    have hr2 := hr.below hba
    have cr0 := pr.c0
    have cr1 := pr.c1
    have lr := pr.lt
    clear q0 q1 qr hba hb hr
    have hBa : Below wa.heap.size wa ((wa.alloc (.cells #[.int .u64 za, .slice zp zl zc] 25)).alloc (.cells #[.int .u64 ya, .slice yp yl yc] 25)) := by go_grown
    go_wp2_with fail
    generalize ((wa.alloc (.cells #[.int .u64 za, .slice zp zl zc] 25)).alloc (.cells #[.int .u64 ya, .slice yp yl yc] 25)) = wb at hBa ⊢
    replace hB := hB.trans (hBa.mono hB.size)
    replace p0 := p0.below hBa p0.lt
    replace p1 := p1.below hBa p1.lt
    replace pr := pr.below hBa pr.lt
    replace hr2 := hr2.below hBa
    replace hz := hz.below hBa
    have hqn : n / R ≤ n := Int.ediv_le_self _ hn0
    have hq0 : 0 ≤ n / R := Int.ediv_nonneg hn0 (by omega)
    have hpw := pw_double Hn.out
    have ng := newton_ge Hs.out.2.1 hpos
    have ne := fun h => newton_end Hs.out hpos hge h
    have hqb : n / R < pw (K + 1) := by omega
    obtain ⟨Q, hQ⟩ : ∃ Q, n / R = Q := ⟨_, rfl⟩
    rw [hQ] at hz hqn hq0 ng ne hqb
    have ad := add_any (K + 1) (by omega) _ _ R Q wb hr2 hz hlt hqb
    clear cr0 cr1 hQ hpw hBa
    refine ad.mono ?_
    rintro e wc ⟨x9, rfl, hx9, hb9⟩
    have dn := down_1 (K + 2) (by omega) x9 (R + Q) wc hx9 (pw_sum hlt hqb)
    clear ad
    go_wp2_with fail
    refine dn.mono ?_
    rintro e wd ⟨x8, rfl, hx8, hb8⟩
    clear dn
    obtain ⟨na, np, nl, nc, rfl⟩ := hx8.shape
    have acc := below_acc hb9 hb9.size hb8
    replace hB := hB.trans (acc.mono hB.size)
    replace p0 := p0.below acc p0.lt
    replace p1 := p1.below acc p1.lt
    replace pr := pr.below acc pr.lt
    replace hr2 := hr2.below acc
    have hBd : Below wd.heap.size wd (wd.alloc (.cells #[.int .u64 na, .slice np nl nc] 25)) := by go_grown
    have pn : Var (wd.alloc (.cells #[.int .u64 na, .slice np nl nc] 25)) wd.heap.size (.int .u64 na) (.slice np nl nc) := Var.new wd _ _ _ _ _ rfl
    have cr0 := pr.c0
    have cr1 := pr.c1
    have lr := pr.lt
    clear hb9 hb8 hx9 hz
    go_wp2_with fail
    generalize (wd.alloc (.cells #[.int .u64 na, .slice np nl nc] 25)) = we at hBd pn ⊢
    replace hB := hB.trans (hBd.mono hB.size)
    replace p0 := p0.below hBd p0.lt
    replace p1 := p1.below hBd p1.lt
    replace pr := pr.below hBd pr.lt
    replace hr2 := hr2.below hBd
    replace hx8 := hx8.below hBd
    have ncd : c ≠ wd.heap.size := Nat.ne_of_lt lr
    generalize wd.heap.size = d8 at pn lr ncd ⊢
    clear cr0 cr1 acc hBd
    have Ng := Lib.hid ng
    have Ne := Lib.hid ne
    clear ng ne
    by_cases hlt2 : (R + Q) / 2 < R
    · have cm := cmp_below _ _ _ _ we hx8 hr2 hlt2
      refine cm.mono ?_
      rintro e wf ⟨rfl, hbf⟩
      replace hB := hB.trans (hbf.mono hB.size)
      replace p0 := p0.below hbf p0.lt
      replace p1 := p1.below hbf p1.lt
      replace pr := pr.below hbf pr.lt
      replace pn := pn.below hbf pn.lt
      replace hx8 := hx8.below hbf
      have cr0 := pr.c0
      have cr1 := pr.c1
      have fr0 := pr.free 0
      have fr1 := pr.free 1
      have cn0 := pn.c0
      have cn1 := pn.c1
      clear cm hbf hr2
      go_wp2_with fail
      go_roundg ((R + Q) / 2).toNat
      case measure => have := Hgk.out; omega
      case rel => exact ⟨(R + Q) / 2, ⟨(p0.other (by omega) _).other (by omega) _, (p1.other (by omega) _).other (by omega) _, below_two hB (by omega) _ _, hat, by have := Ng.out; omega, Ng.out, by omega, _, _, _, _, pr.set _ _ _ _, hx8.two pr _ _⟩, rfl⟩
    · have cm := cmp_notless _ _ _ _ we hx8 hr2 hlt2
      refine cm.mono ?_
      rintro e wf ⟨⟨d, rfl, hd⟩, hbf⟩
      replace hB := hB.trans (hbf.mono hB.size)
      replace p1 := p1.below hbf p1.lt
      replace pr := pr.below hbf pr.lt
      replace hr2 := hr2.below hbf
      have cr0 := pr.c0
      have cr1 := pr.c1
      have c10 := p1.c0
      have c11 := p1.c1
      have f10 := p1.free 0
      have f11 := p1.free 1
      clear cm hbf hx8
      go_wp2_with fail
      have es := Ne.out (by omega)
      subst es
      exact bodyPost_root Hs.out (bodyPost_var Tryd.results12 rfl rfl (p1.set _ _ _ _) (hr2.two p1 _ _) (below_two hB (by omega) _ _))
end Go.Proofs.YtjoppmkknbpjbaaDoor

namespace Go.Proofs.YtjoppmkknbpjbaaDoor
open Go.RowKit
set_option linter.unusedVariables false

theorem root_any (K : Nat) (hK1 : 1 ≤ K) (hK : K ≤ 190) (v : Value) (n : Int) (w : World) (h : IsNat w v n) (hn : n < pw K) : Calls Tryd.prog 12 #[v] w (RootRet n w) := by
  obtain ⟨N, hN⟩ : ∃ N : Nat, n.toNat = N := ⟨_, rfl⟩
  induction N using Nat.strongRecOn generalizing v n w with
  | _ N ih =>
    rcases h with ⟨wn, rfl⟩ | ⟨b, s, len, cap, l, rfl, ha, h2, h3, h4, h5, hw, hz, rfl⟩
    · obtain ⟨M, rfl⟩ := Int.eq_ofNat_of_zero_le wn.1
      refine (root_word M (Lib.hid (by have := wn.2; omega)) w).mono ?_
      rintro e w' ⟨r, h1, h2, h3, hp⟩
      exact ⟨r, ⟨by omega, by exact_mod_cast h1, by exact_mod_cast h2⟩, hp⟩
    · have hv : IsNat w (.agg #[.int .u64 0, .slice (some ⟨b, 0, none⟩) len cap]) (val (l.take len)) := .inr ⟨b, s, len, cap, l, rfl, ha, h2, h3, h4, h5, hw, hz, rfl⟩
      have h0 := hv.nonneg
      have hbig : 18446744073709551616 ≤ val (l.take len) := by
        have g1 := val_low hw (by omega) (by omega) hz
        have g2 := pw_mono (a := 1) (b := len - 1) (by omega)
        simp only [pw] at g2
        omega
      exact root_many K hK1 hK _ len cap _ w hv hn hbig fun v' n' w' h' hlt => ih n'.toNat (by have := h'.nonneg; omega) v' n' w' h' (by omega) rfl

set_option maxRecDepth 100000 in
theorem shift_pos (K : Nat) (hK : 1 ≤ K) (hK2 : K ≤ 1048576) (v : Value) (n : Int) (k : Nat) (hk : k ≤ 65536) (w : World) (h : IsNat w v n) (hn : n < pw K) :
    Calls Tryd.prog 16 #[v, .int .i64 k] w (RetNat (n * 2 ^ k) w) := by
  obtain ⟨x, p, l, c, rfl⟩ := h.shape
  have hW : Below w.heap.size w ((w.alloc (.cells #[.int .u64 x, .slice p l c] 25)).alloc (.cells #[.int .u64 0, .slice none 0 0] 25)) := by go_grown
  have v1 : Var ((w.alloc (.cells #[.int .u64 x, .slice p l c] 25)).alloc (.cells #[.int .u64 0, .slice none 0 0] 25)) (w.heap.size + 1) (.int .u64 0) (.slice none 0 0) := Var.new (w.alloc _) _ _ _ _ _ (by simp)
  have hm : min (k : Int) 65536 = (k : Int) := by omega
  have hlt : ¬ (k : Int) < 0 := by omega
  go_enter Tryd.func16, Tryd.ntmps16
  go_wp2_with fail
  generalize ((w.alloc (.cells #[.int .u64 x, .slice p l c] 25)).alloc (.cells #[.int .u64 0, .slice none 0 0] 25)) = W at hW v1 ⊢
  refine (up_any K hK hK2 _ n k (by omega) W (h.below hW) hn).mono ?_
  rintro e w1 ⟨y, rfl, hy, hb⟩
  obtain ⟨ya, yp, yl, yc, rfl⟩ := hy.shape
  have u1 := v1.below hb v1.lt
  have c10 := u1.c0
  have c11 := u1.c1
  have f10 := u1.free 0
  have f11 := u1.free 1
  go_wp2_with fail
  exact bodyPost_var Tryd.results16 rfl rfl (u1.set _ _ _ _) (hy.two u1 _ _) (below_two (hW.trans (hb.mono hW.size)) (by omega) _ _)
set_option maxRecDepth 100000 in
theorem shift_neg (K : Nat) (hK2 : K ≤ 1048576) (v : Value) (n : Int) (k : Nat) (hk1 : 1 ≤ k) (hk : k ≤ 65536) (w : World) (h : IsNat w v n) (hn : n < pw K) :
    Calls Tryd.prog 16 #[v, .int .i64 (-k)] w (RetNat (n / 2 ^ k) w) := by
  obtain ⟨x, p, l, c, rfl⟩ := h.shape
  have hW : Below w.heap.size w ((w.alloc (.cells #[.int .u64 x, .slice p l c] 25)).alloc (.cells #[.int .u64 0, .slice none 0 0] 25)) := by go_grown
  have v1 : Var ((w.alloc (.cells #[.int .u64 x, .slice p l c] 25)).alloc (.cells #[.int .u64 0, .slice none 0 0] 25)) (w.heap.size + 1) (.int .u64 0) (.slice none 0 0) := Var.new (w.alloc _) _ _ _ _ _ (by simp)
  obtain ⟨z, hz⟩ : ∃ z : Int, -(k : Int) = z := ⟨_, rfl⟩
  rw [hz]
  have hm : max z (-65536) = z := by omega
  have hlt : z < 0 := by omega
  have hge : -65536 ≤ z := by omega
  have hneg : -z = (k : Int) := by omega
  clear hz
  go_enter Tryd.func16, Tryd.ntmps16
  go_wp2_with fail
  generalize ((w.alloc (.cells #[.int .u64 x, .slice p l c] 25)).alloc (.cells #[.int .u64 0, .slice none 0 0] 25)) = W at hW v1 ⊢
  refine (down_any K hK2 _ n k (by omega) W (h.below hW) hn).mono ?_
  rintro e w1 ⟨y, rfl, hy, hb⟩
  obtain ⟨ya, yp, yl, yc, rfl⟩ := hy.shape
  have u1 := v1.below hb v1.lt
  have c10 := u1.c0
  have c11 := u1.c1
  have f10 := u1.free 0
  have f11 := u1.free 1
  go_wp2_with fail
  exact bodyPost_var Tryd.results16 rfl rfl (u1.set _ _ _ _) (hy.two u1 _ _) (below_two (hW.trans (hb.mono hW.size)) (by omega) _ _)
end Go.Proofs.YtjoppmkknbpjbaaDoor
