/- Contracts of the document's products and of its order: NatMul,NatCmp,NatAdd,NatSub. -/
import Derived.Test.YtlkblgpekbeljaaGreatDoorRefSum
namespace Go.Proofs.YtlkblgpekbeljaaGreatDoor
open Go.RowKit
set_option linter.unusedVariables false

theorem lsame_val {l1 l2 : List Int} {len : Nat} (h1 : len ≤ l1.length) (h2 : len ≤ l2.length) (h : ∀ j,j < len → l1.getD j 0 = l2.getD j 0) : lval (l1.take len) = lval (l2.take len) := by
  rw [← lseg_all,← lseg_all]
  exact lseg_congr (by omega) (by omega) (fun j _ hj => h j (by omega))
theorem lcmp_val {l1 l2 : List Int} {len j : Nat} (h1 : len ≤ l1.length) (h2 : len ≤ l2.length) (hw1 : Limbs l1) (hw2 : Limbs l2) (hj : j < len) (he : ∀ i,j < i → i < len → l1.getD i 0 = l2.getD i 0) (hne : l1.getD j 0 ≠ l2.getD j 0) :
    cmpI (lval (l1.take len)) (lval (l2.take len)) = cmpI (l1.getD j 0) (l2.getD j 0) := by
  obtain ⟨m,rfl⟩ : ∃ m,len = j + 1 + m := ⟨len - (j + 1),by omega⟩
  have b1 := lseg_bd hw1 0 j (by omega)
  have b2 := lseg_bd hw2 0 j (by omega)
  rw [← lseg_all,← lseg_all,lseg_add (l := l1) (o := 0) (k := j + 1) (m := m) (by omega),lseg_add (l := l2) (o := 0) (k := j + 1) (m := m) (by omega),lseg_succ (l := l1) (o := 0) (k := j) (by omega),lseg_succ (l := l2) (o := 0) (k := j) (by omega),
    lseg_congr (l := l1) (l' := l2) (o := 0 + (j + 1)) (k := m) (by omega) (by omega) (fun i hi1 hi2 => he i (by omega) (by omega)),Nat.zero_add]
  exact cmpI_scale (lpw_pos j) b1 b2 hne

theorem Limbed.row {w : World} {s : Value} {L : List Int} (h : Limbed w s L) (hne : L.length ≠ 0) : ∃ b t cap l,s = .slice (some ⟨b,0,none⟩) L.length cap ∧ Arr w b t .u32 l ∧ L.length ≤ l.length ∧ (∀ k,k < L.length → l.getD k 0 = L.getD k 0) ∧ b < w.heap.size := by
  rcases h with ⟨_,rfl⟩ | ⟨b,t,len,cap,l,rfl,ha,h1,h2,hw,rfl⟩
  · exact absurd rfl hne
  · have hl : (l.take len).length = len := by rw [List.length_take,Nat.min_eq_left h1]
    rw [hl]
    exact ⟨b,t,cap,l,rfl,ha,h1,fun k hk => by rw [getD_take,if_pos hk],ha.lt⟩
/-- A row that a call goes through,limb by limb. -/
theorem Limbed.cell {w : World} {b t : Nat} {l L : List Int} (ha : Arr w b t .u32 l) (h1 : L.length ≤ l.length) (he : ∀ k,k < L.length → l.getD k 0 = L.getD k 0) (k : Nat) (hk : k < L.length) : w.cell? ⟨b,k,none⟩ = some (.int .u32 (L.getD k 0)) := by
  rw [← he k hk]; exact ha.cell k (by omega)

theorem cmp_lens {A B : List Int} (hA : Limbs A) (hB : Limbs B) (zA : A ≠ [] → A.getD (A.length - 1) 0 ≠ 0) (zB : B ≠ [] → B.getD (B.length - 1) 0 ≠ 0) (hne : A.length ≠ B.length) : cmpI (lval A) (lval B) = if A.length < B.length then -1 else 1 := by
  unfold cmpI
  by_cases h : A.length < B.length
  · have : ¬ lval B ≤ lval A := fun k => by have := llen_le hA hB zB k; omega
    rw [if_pos h,if_pos (by omega)]
  · have : ¬ lval A ≤ lval B := fun k => by have := llen_le hB hA zA k; omega
    rw [if_neg h,if_neg (by omega),if_pos (by omega)]

/-- Behind i limbs of the one number: their product with the other one. -/
def TimesAt (A B lk : List Int) (i : Nat) : Prop := lk.length = A.length + B.length ∧ Limbs lk ∧ lval (lk.take (i + B.length)) = lval (A.take i) * lval B
/-- Within: behind k limbs of the other one,the carry c. -/
def TimesIn (lz lk B : List Int) (i k : Nat) (a c : Int) : Prop := lk.length = lz.length ∧ Limbs lk ∧ Limb c ∧ (∀ j,i + k ≤ j → lk.getD j 0 = lz.getD j 0) ∧ lval (lk.take (i + k)) + c * lpw (i + k) = lval (lz.take (i + k)) + lpw i * (a * lval (B.take k))
theorem lin_times {P Pi Pk s t a c c' r lo u x : Int} (hP : P = Pi * Pk) (he : lo + 4294967296 * c' = c + r + a * x) (hv : s + c * P = t + Pi * (a * u)) :
    s + P * lo + c' * (4294967296 * P) = t + P * r + Pi * (a * (u + Pk * x)) := by
  have h2 : P * lo + P * (4294967296 * c') = P * c + P * r + P * (a * x) := by rw [← Int.mul_add,he,Int.mul_add,Int.mul_add]
  have h3 : c' * (4294967296 * P) = P * (4294967296 * c') := by rw [← Int.mul_assoc,Int.mul_comm (c' * 4294967296) P,Int.mul_comm c' 4294967296]
  have h4 : c * P = P * c := Int.mul_comm _ _
  have h5 : Pi * (a * (u + Pk * x)) = Pi * (a * u) + P * (a * x) := by
    rw [Int.mul_add,Int.mul_add,hP,Int.mul_assoc,Int.mul_left_comm a Pk x]
  rw [h3,h5]; omega
theorem times_bd {a x : Int} (ha : Limb a) (hx : Limb x) : 0 ≤ a * x ∧ a * x ≤ 18446744065119617025 := by
  obtain ⟨a0,a1⟩ := ha
  obtain ⟨x0,x1⟩ := hx
  refine ⟨Int.mul_nonneg a0 x0,?_⟩
  have h1 : a * x ≤ 4294967295 * x := Int.mul_le_mul_of_nonneg_right (by omega) x0
  omega
theorem TimesIn.step {lz lk B : List Int} {i k : Nat} {a c : Int} (h : TimesIn lz lk B i k a c) (hi : i + k < lz.length) (hz : Limbs lz) (hB : Limbs B) (ha : Limb a) :
    TimesIn lz (lk.set (i + k) ((c + lz.getD (i + k) 0 + a * B.getD k 0) % 4294967296)) B i (k + 1) a ((c + lz.getD (i + k) 0 + a * B.getD k 0) / 4294967296) := by
  obtain ⟨hlen,hw,hc,hrest,hval⟩ := h
  have wr := hz.getD (i + k)
  have wx := hB.getD k
  have hb := times_bd ha wx
  refine ⟨by simp [hlen],hw.set _ ⟨by omega,by omega⟩,?_,?_,?_⟩
  · generalize a * B.getD k 0 = p at *
    unfold Limb at *
    omega
  · intro j hj
    rw [getD_set _ _ _ _ (by omega),if_neg (by omega)]
    exact hrest j (by omega)
  · rw [← Nat.add_assoc,lval_set (by omega),lval_take_next lz,lval_take_next B]
    exact lin_times (lpw_add i k) (by omega) hval
theorem TimesAt.step {lz lk A B : List Int} {i : Nat} {c : Int} (h : TimesAt A B lz i) (hi : i < A.length) (hin : TimesIn lz lk B i B.length (A.getD i 0) c) : TimesAt A B (lk.set (i + B.length) c) (i + 1) := by
  obtain ⟨hlen,hw,hval⟩ := h
  obtain ⟨glen,gw,gc,grest,gval⟩ := hin
  refine ⟨by simp [glen,hlen],gw.set _ gc,?_⟩
  rw [Nat.add_right_comm,lval_set (by omega),lval_take_next A,Int.add_mul,← hval]
  rw [List.take_length] at gval
  rw [Int.mul_comm (lpw (i + B.length)) c,gval,Int.mul_assoc]
end Go.Proofs.YtlkblgpekbeljaaGreatDoor
