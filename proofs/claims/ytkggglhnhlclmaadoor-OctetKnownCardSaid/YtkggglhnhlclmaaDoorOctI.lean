/- octet: Few and Pick; a record of which one byte is turned. -/
import Derived.Test.YtkggglhnhlclmaaDoorOctF
import Derived.Test.YtkggglhnhlclmaaDoorOctH
namespace Go.Proofs.YtkggglhnhlclmaaDoor
open Go.RowKit
set_option linter.unusedVariables false

theorem sealed_len (k : Int) (T : List Int) : (sealed k T).length = (cnt T.length).length + T.length + 9 := by
  unfold sealed recd
  rw [List.length_append, List.length_cons, List.length_append]
  show _ + 8 = _
  omega
theorem recd_len (k : Int) (T : List Int) : (recd k T).length = (cnt T.length).length + T.length + 1 := by
  unfold recd
  rw [List.length_cons, List.length_append]
theorem recd_octs {k : Int} {T : List Int} (hk : 1 ≤ k ∧ k ≤ 255) (hT : Octs T) : Octs (recd k T) := by
  unfold recd
  intro x hx
  rcases List.mem_cons.1 hx with rfl | hx
  · omega
  · exact (cnt_octs _).app hT x hx
/-- What Next finds in a record of which one byte of the body, or of the sum, is turned. -/
theorem turned_parts {k : Int} {T : List Int} {i : Nat} {y : Int} (hk : 1 ≤ k ∧ k ≤ 255) (hT : Octs T) (hi : 1 + (cnt T.length).length ≤ i) (hi2 : i < (sealed k T).length) (hy : 0 ≤ y ∧ y < 256) (hne : y ≠ (sealed k T).getD i 0) :
    ∃ L C, (sealed k T).set i y = L ∧ (cnt T.length).length = C ∧ 0 < C ∧ L.length = C + T.length + 9 ∧ L.getD 0 0 ≠ 0 ∧ low (L.drop 1) = C - 1 ∧ (C - 1 = 0 ∨ (L.drop 1).getD (C - 1) 0 ≠ 0) ∧ grp ((L.drop 1).take (C - 1 + 1)) = (T.length : Int) ∧
      deb ((((L.drop 1).drop (C - 1 + 1)).drop T.length).take 8) ≠ fnv f0 (L.take (C - 1 + 1 + T.length + 1)) ∧ Octs L := by
  have hC := cnt_pos T.length
  have hl := sealed_len k T
  have hr := recd_len k T
  have st := sealed_turned (s := recd k T) (i := i) (recd_octs hk hT) (by rw [hl] at hi2; omega) hy hne
  obtain ⟨C, hCe⟩ : ∃ C, (cnt T.length).length = C := ⟨_, rfl⟩
  have so : Octs (sealed k T) := (recd_octs hk hT).app (be8_octs (fnv_word f0_word _))
  rw [hCe] at hC hl hr hi
  obtain ⟨j, hj⟩ : ∃ j, i = 1 + C + j := ⟨i - (1 + C), by omega⟩
  have es : sealed k T = k :: (cnt T.length ++ (T ++ be8 (fnv f0 (recd k T)))) := by
    show (k :: (cnt T.length ++ T)) ++ be8 (fnv f0 (recd k T)) = _
    rw [List.cons_append, List.append_assoc]
  have ed : ((sealed k T).set i y).drop 1 = cnt T.length ++ (T ++ be8 (fnv f0 (recd k T))).set j y := by
    rw [es, hj, show 1 + C + j = (C + j) + 1 by omega, List.set_cons_succ, List.drop_succ_cons, List.drop_zero, List.set_append_right _ _ (by omega)]
    congr 2
    omega
  refine ⟨_, C, rfl, hCe, by omega, by rw [List.length_set, hl], ?_, ?_, ?_, ?_, ?_, ?_⟩
  · rw [List.getD_eq_getElem?_getD, List.getElem?_set_ne (by omega), es]
    show k ≠ 0
    omega
  · rw [ed, low_cnt, hCe]
  · rw [ed]
    rcases cnt_last T.length with h | h
    · exact .inl (by omega)
    · refine .inr ?_
      rw [List.getD_eq_getElem?_getD, List.getElem?_append_left (by omega), ← List.getD_eq_getElem?_getD, ← hCe]
      exact h
  · rw [ed, show C - 1 + 1 = (cnt T.length).length by omega, List.take_left, grp_cnt]
  · have e1 : ((((sealed k T).set i y).drop 1).drop (C - 1 + 1)).drop T.length = ((sealed k T).set i y).drop (recd k T).length := by
      rw [List.drop_drop, List.drop_drop, hr]
      congr 1
      omega
    rw [e1, List.take_of_length_le (by rw [List.length_drop, List.length_set, hl, hr]; omega), show C - 1 + 1 + T.length + 1 = (recd k T).length by omega]
    exact st
  · intro x hx
    rcases List.mem_or_eq_of_mem_set hx with hx | rfl
    · exact so x hx
    · exact hy
end Go.Proofs.YtkggglhnhlclmaaDoor
