/- Contract of the document's NatDiv, whatever the numbers. -/
import Derived.Test.YtogpephnkkofjaaGreatDoorRefDiv
namespace Go.Proofs.YtogpephnkkofjaaGreatDoor
open Go.RowKit
set_option linter.unusedVariables false

set_option maxRecDepth 100000 in
theorem natDiv_less (sa sb : Value) (a b : Int) (w : World) (ha : IsNum w sa a) (hb : IsNum w sb b) (hlt : a < b) :
    Calls Tryz.prog 11 #[sa, sb] w (RetPair (a / b) (a % b) w) := by
  have h0 := ha.nonneg
  have cm := natCmp_num sa sb a b w ha hb
  obtain ⟨pa, la, ca, rfl⟩ := ha.shape
  obtain ⟨pb, lb, cb, rfl⟩ := hb.shape
  have e1 : a / b = 0 := Int.ediv_eq_zero_of_lt h0 hlt
  have e2 : a % b = a := Int.emod_eq_of_lt h0 hlt
  rw [e1, e2]
  rw [cmpI_lt hlt] at cm
  clear e1 e2
  go_enter Tryz.func11, Tryz.ntmps11
  go_wp2_with fail
  refine cm.mono ?_
  rintro e w1 ⟨rfl, hb1⟩
  go_wp2_with fail
  go_ret2
  exact ⟨_, _, rfl, ⟨[], .inl ⟨rfl, rfl⟩, fun h => absurd rfl h, rfl⟩, ha.below hb1, hb1⟩
set_option maxRecDepth 100000 in
theorem natDiv_limb (sa : Value) (a : Int) (bb tb cb : Nat) (lb : List Int) (w : World) (ha : IsNum w sa a) (hb : Arr w bb tb .u32 lb) (hlb : 1 ≤ lb.length) (hwb : Limbs lb) (hzb : lb.getD 0 0 ≠ 0) (hge : ¬ a < lb.getD 0 0) :
    Calls Tryz.prog 11 #[sa, .slice (some ⟨bb, 0, none⟩) 1 cb] w (RetPair (a / lb.getD 0 0) (a % lb.getD 0 0) w) := by
  have h0 := ha.nonneg
  have ev : lval (lb.take 1) = lb.getD 0 0 := by
    have := lval_take_succ (l := lb) (k := 0) (by omega)
    simpa [lval, lpw] using this
  have hbn : IsNum w (.slice (some ⟨bb, 0, none⟩) 1 cb) (lval (lb.take 1)) := isNum_arr hb hlb (by decide) hwb (fun _ => hzb)
  rw [ev] at hbn
  have cm := natCmp_num sa _ a _ w ha hbn
  obtain ⟨pa, la, ca, rfl⟩ := ha.shape
  have ld := hwb.getD 0
  have hc0 := fun W (g : Below w.heap.size w W) => (hb.below g hb.lt).cell 0 (by omega)
  generalize lb.getD 0 0 = b at *
  have hd : ¬ cmpI a b < 0 := by unfold cmpI; rw [if_neg hge]; split <;> omega
  obtain ⟨d, hdd⟩ : ∃ d, cmpI a b = d := ⟨_, rfl⟩
  rw [hdd] at cm hd
  obtain ⟨l0, l1⟩ := ld
  have hb0 : 0 < b := by omega
  have rb0 := Int.emod_nonneg a (show b ≠ 0 by omega)
  have rb1 := Int.emod_lt_of_pos a hb0
  have on := fun W (g : Below w.heap.size w W) => one_num _ a b W (ha.below g) ⟨l0, l1⟩ hb0
  have no := fun W => natOf_num (a % b) ⟨rb0, by omega⟩ W
  obtain ⟨r, hr⟩ : ∃ r, a % b = r := ⟨_, rfl⟩
  have Hc0 := Lib.hid hc0
  have On := Lib.hid on
  have No := Lib.hid no
  have Hr := Lib.hid hr
  clear hdd hge hc0 on no ev hbn hr
  go_enter Tryz.func11, Tryz.ntmps11
  go_wp2_with fail
  refine cm.mono ?_
  rintro e w1 ⟨rfl, hb1⟩
  have c0 := Hc0.out w1 hb1
  go_wp2_with fail
  refine (On.out w1 hb1).mono ?_
  rintro e w2 ⟨q, rfl, hq, hb2⟩
  rw [Hr.out]
  have n2 := No.out w2
  rw [Hr.out] at n2 rb0 rb1
  obtain ⟨pq, lq, cq, rfl⟩ := hq.shape
  have r2 : r < 4294967296 := by omega
  clear c0
  go_wp2_with fail
  refine n2.mono ?_
  rintro e w3 ⟨t, rfl, ht, hb3⟩
  go_wp2_with fail
  go_ret2
  exact ⟨_, _, rfl, hq.below hb3, by rw [Hr.out]; exact ht, (hb1.trans (hb2.mono hb1.size)).trans (hb3.mono (Nat.le_trans hb1.size hb2.size))⟩
theorem natDiv_num (K : Nat) (hK : K ≤ 100000) (sa sb : Value) (a b : Int) (w : World) (ha : IsNum w sa a) (hb : IsNum w sb b) (hb0 : b ≠ 0) (haK : a < lpw K) (hbK : b < lpw K) :
    Calls Tryz.prog 11 #[sa, sb] w (RetPair (a / b) (a % b) w) := by
  by_cases hlt : a < b
  · exact natDiv_less sa sb a b w ha hb hlt
  · obtain ⟨L, h1, h2, rfl⟩ := hb
    have hl := num_len h1 h2 hbK
    rcases h1 with ⟨rfl, rfl⟩ | ⟨bb, tb, len, cap, lb, rfl, hab, k1, k2, hwb, rfl⟩
    · exact absurd rfl hb0
    · have hL : (lb.take len).length = len := by rw [List.length_take, Nat.min_eq_left k1]
      rw [hL] at hl h2
      have hlen : len ≠ 0 := by
        rintro rfl
        exact hb0 rfl
      have hz := h2 (fun e => by rw [e] at hL; exact hlen hL.symm)
      rw [getD_take, if_pos (by omega)] at hz
      by_cases h1 : len = 1
      · subst h1
        have ev : lval (lb.take 1) = lb.getD 0 0 := by
          have := lval_take_succ (l := lb) (k := 0) (by omega)
          simpa [lval, lpw] using this
        rw [ev] at hlt ⊢
        exact natDiv_limb sa a bb tb cap lb w ha hab k1 hwb hz hlt
      · exact natDiv_long K hK sa a bb tb len cap lb w ha hab k1 hwb (by omega) (by omega) hz hlt haK
end Go.Proofs.YtogpephnkkofjaaGreatDoor
