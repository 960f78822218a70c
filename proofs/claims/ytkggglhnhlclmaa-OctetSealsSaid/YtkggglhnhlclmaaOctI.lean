/- octet: Few and Pick; a record of which one byte is turned. -/
import Derived.Test.YtkggglhnhlclmaaOctF
import Derived.Test.YtkggglhnhlclmaaOctH
namespace Go.Proofs.Ytkggglhnhlclmaa
open Go.RowKit
set_option linter.unusedVariables false

/-- Any number as one of 0 to m - 1. -/
theorem pick_o (x m : Int) (hx : -9223372036854775808 ≤ x) (hx2 : x ≤ 9223372036854775807) (hm : 0 < m) (hm2 : m ≤ 4611686018427387904) (w : World) :
    Calls Try.prog 4 #[.int .i64 x, .int .i64 m] w fun e w' => (∃ p : Nat, (p : Int) < m ∧ e = .returned (.int .i64 p)) ∧ w = w' := by
  have h1 : -m < x.tmod m := by
    have := Int.tmod_lt_of_pos (-x) hm
    rw [Int.neg_tmod] at this
    omega
  have h2 : x.tmod m < m := Int.tmod_lt_of_pos x hm
  have hz : (m == 0) = false := by simp; omega
  obtain ⟨t, ht⟩ : ∃ t, x.tmod m = t := ⟨_, rfl⟩
  rw [ht] at h1 h2
  by_cases hneg : t < 0
  · obtain ⟨p, hp⟩ := Int.eq_ofNat_of_zero_le (show 0 ≤ t + m by omega)
    have hp2 : (p : Int) < m := by omega
    have hge : -4611686018427387904 ≤ t := by omega
    have Hp2 := Lib.hid hp2
    clear hp2
    go_enter Try.func4, Try.ntmps4
    go_wp2_with fail
    go_ret
    exact ⟨⟨p, Hp2.out, by first | rfl | (congr 2)⟩, rfl⟩
  · obtain ⟨p, rfl⟩ := Int.eq_ofNat_of_zero_le (show 0 ≤ t by omega)
    have hge : (0 : Int) ≤ (p : Int) := by omega
    go_enter Try.func4, Try.ntmps4
    go_wp2_with fail
    go_ret
    exact ⟨⟨p, h2, by first | rfl | (congr 2)⟩, rfl⟩
set_option maxRecDepth 100000 in
set_option maxHeartbeats 1000000 in
theorem few_own (N : Int) (hN1 : 1 ≤ N) (hN2 : N ≤ 4000000000) (v : Value) (l : List Int) (w : World) (h : Bs w v l) : Calls Try.prog 6 #[v, .int .i64 N] w fun e w' => ∃ v', e = .returned v' ∧ Own w' w.heap.size .u8 5 v' (l.take N.toNat) ∧ Below w.heap.size w w' := by
  obtain ⟨p, c, rfl⟩ := h.shape
  obtain ⟨len, hlen⟩ : ∃ len, l.length = len := ⟨_, rfl⟩
  rw [hlen] at h ⊢
  obtain ⟨_, h1, h2⟩ := h.len
  obtain ⟨n, hn⟩ : ∃ n : Nat, min len N.toNat = n := ⟨_, rfl⟩
  have hmin : min (len : Int) N = (n : Int) := by omega
  have a1 : n ≤ c := by omega
  have a2 : (n : Int) ≤ (c : Int) := by omega
  have hf := h.front (n := n) (by omega)
  have et : l.take n = l.take N.toNat := by
    by_cases e : len ≤ N.toNat
    · rw [List.take_of_length_le (by omega), List.take_of_length_le (by omega)]
    · rw [show n = N.toNat by omega]
  have hW : Below w.heap.size w (w.alloc (.cells #[] 5)) := by go_grown
  have own0 : Own (w.alloc (.cells #[] 5)) w.heap.size .u8 5 (.slice (some ⟨w.heap.size, 0, none⟩) 0 0) [] := .inr ⟨w.heap.size, 0, rfl, Arr.new w _ _ [] _ rfl, Nat.le_refl _⟩
  obtain ⟨v', w', hrun, ho, hb, _⟩ := app_bs (B := w.heap.size) hW.size own0 (hf.below hW) (by rw [List.length_take]; simp; omega)
  rw [List.nil_append, et] at ho
  have Hrun := Lib.hid hrun
  have hbw := hW.trans hb
  clear hrun hn et
  go_enter Try.func6, Try.ntmps6
  go_wp2_with (at_builtin; refine Lib.wpList_append_run _ rfl _ _ _ _ rfl _ _ rfl rfl _ _ Hrun.out ?_)
  go_ret
  exact ⟨_, rfl, ho, hbw⟩
theorem sealed_len (k : Int) (T : List Int) : (sealed k T).length = (cnt T.length).length + T.length + 9 := by
  unfold sealed recd
  rw [List.length_append, List.length_cons, List.length_append]
  show _ + 8 = _
  omega
theorem recd_len (k : Int) (T : List Int) : (recd k T).length = (cnt T.length).length + T.length + 1 := by
  unfold recd
  rw [List.length_cons, List.length_append]
theorem recd_octs {k : Int} {T : List Int} (hk : 1 ≤ k ∧ k ≤ 255) (hT : Octs T) : Octs (recd k T) := by
  unfold recd
  intro x hx
  rcases List.mem_cons.1 hx with rfl | hx
  · omega
  · exact (cnt_octs _).app hT x hx
/-- What Next finds in a record of which one byte of the body, or of the sum, is turned. -/
theorem turned_parts {k : Int} {T : List Int} {i : Nat} {y : Int} (hk : 1 ≤ k ∧ k ≤ 255) (hT : Octs T) (hi : 1 + (cnt T.length).length ≤ i) (hi2 : i < (sealed k T).length) (hy : 0 ≤ y ∧ y < 256) (hne : y ≠ (sealed k T).getD i 0) :
    ∃ L C, (sealed k T).set i y = L ∧ (cnt T.length).length = C ∧ 0 < C ∧ L.length = C + T.length + 9 ∧ L.getD 0 0 ≠ 0 ∧ low (L.drop 1) = C - 1 ∧ (C - 1 = 0 ∨ (L.drop 1).getD (C - 1) 0 ≠ 0) ∧ grp ((L.drop 1).take (C - 1 + 1)) = (T.length : Int) ∧
      deb ((((L.drop 1).drop (C - 1 + 1)).drop T.length).take 8) ≠ fnv f0 (L.take (C - 1 + 1 + T.length + 1)) ∧ Octs L := by
  have hC := cnt_pos T.length
  have hl := sealed_len k T
  have hr := recd_len k T
  have st := sealed_turned (s := recd k T) (i := i) (recd_octs hk hT) (by rw [hl] at hi2; omega) hy hne
  obtain ⟨C, hCe⟩ : ∃ C, (cnt T.length).length = C := ⟨_, rfl⟩
  have so : Octs (sealed k T) := (recd_octs hk hT).app (be8_octs (fnv_word f0_word _))
  rw [hCe] at hC hl hr hi
  obtain ⟨j, hj⟩ : ∃ j, i = 1 + C + j := ⟨i - (1 + C), by omega⟩
  have es : sealed k T = k :: (cnt T.length ++ (T ++ be8 (fnv f0 (recd k T)))) := by
    show (k :: (cnt T.length ++ T)) ++ be8 (fnv f0 (recd k T)) = _
    rw [List.cons_append, List.append_assoc]
  have ed : ((sealed k T).set i y).drop 1 = cnt T.length ++ (T ++ be8 (fnv f0 (recd k T))).set j y := by
    rw [es, hj, show 1 + C + j = (C + j) + 1 by omega, List.set_cons_succ, List.drop_succ_cons, List.drop_zero, List.set_append_right _ _ (by omega)]
    congr 2
    omega
  refine ⟨_, C, rfl, hCe, by omega, by rw [List.length_set, hl], ?_, ?_, ?_, ?_, ?_, ?_⟩
  · rw [List.getD_eq_getElem?_getD, List.getElem?_set_ne (by omega), es]
    show k ≠ 0
    omega
  · rw [ed, low_cnt, hCe]
  · rw [ed]
    rcases cnt_last T.length with h | h
    · exact .inl (by omega)
    · refine .inr ?_
      rw [List.getD_eq_getElem?_getD, List.getElem?_append_left (by omega), ← List.getD_eq_getElem?_getD, ← hCe]
      exact h
  · rw [ed, show C - 1 + 1 = (cnt T.length).length by omega, List.take_left, grp_cnt]
  · have e1 : ((((sealed k T).set i y).drop 1).drop (C - 1 + 1)).drop T.length = ((sealed k T).set i y).drop (recd k T).length := by
      rw [List.drop_drop, List.drop_drop, hr]
      congr 1
      omega
    rw [e1, List.take_of_length_le (by rw [List.length_drop, List.length_set, hl, hr]; omega), show C - 1 + 1 + T.length + 1 = (recd k T).length by omega]
    exact st
  · intro x hx
    rcases List.mem_or_eq_of_mem_set hx with hx | rfl
    · exact so x hx
    · exact hy
end Go.Proofs.Ytkggglhnhlclmaa
