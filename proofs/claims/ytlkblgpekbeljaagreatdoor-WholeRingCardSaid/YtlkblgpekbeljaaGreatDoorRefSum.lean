/- Contracts of the document's sums: at,NatAdd,NatSub,NatCmp,over numbers limb by limb. -/
import Derived.Test.YtlkblgpekbeljaaGreatDoorNatFrom
namespace Go.Proofs.YtlkblgpekbeljaaGreatDoor
open Go.RowKit
set_option linter.unusedVariables false

/-- The slice s holds the limbs L,the lowest first. -/
def Limbed (w : World) (s : Value) (L : List Int) : Prop :=
  (s = .slice none 0 0 ∧ L = []) ∨ ∃ b t len cap l,s = .slice (some ⟨b,0,none⟩) len cap ∧ Arr w b t .u32 l ∧ len ≤ l.length ∧ len ≤ 4294967296 ∧ Limbs l ∧ L = l.take len
section
variable {w w' : World} {s : Value} {L : List Int}
theorem Limbed.limbs (h : Limbed w s L) : Limbs L := by
  rcases h with ⟨_,rfl⟩ | ⟨b,t,len,cap,l,_,_,_,_,hw,rfl⟩
  · exact Limbs.nil
  · exact hw.take _
theorem Limbed.short (h : Limbed w s L) : L.length ≤ 4294967296 := by
  rcases h with ⟨_,rfl⟩ | ⟨b,t,len,cap,l,_,_,h1,h2,hw,rfl⟩
  · simp
  · rw [List.length_take]; omega
theorem Limbed.shape (h : Limbed w s L) : ∃ p cap,s = .slice p L.length cap := by
  rcases h with ⟨rfl,rfl⟩ | ⟨b,t,len,cap,l,rfl,_,h1,h2,hw,rfl⟩
  · exact ⟨_,_,rfl⟩
  · rw [List.length_take,Nat.min_eq_left h1]; exact ⟨_,_,rfl⟩
theorem Limbed.below (h : Limbed w s L) (hb : Below w.heap.size w w') : Limbed w' s L := by
  rcases h with h | ⟨b,t,len,cap,l,hv,ha,r⟩
  · exact .inl h
  · exact .inr ⟨b,t,len,cap,l,hv,ha.below hb ha.lt,r⟩
theorem Limbed.below' {B : Nat} (h : Limbed w s L) (hb : Below B w w') (hB : w.heap.size ≤ B) : Limbed w' s L := h.below (hb.mono hB)
end
theorem getD_take (l : List Int) (n i : Nat) : (l.take n).getD i 0 = if i < n then l.getD i 0 else 0 := by
  simp only [List.getD_eq_getElem?_getD,List.getElem?_take]
  split <;> rfl
theorem getD_out {l : List Int} {i : Nat} (h : l.length ≤ i) : l.getD i 0 = 0 := by
  rw [List.getD_eq_getElem?_getD,List.getElem?_eq_none h]; rfl
theorem lval_take_next (l : List Int) (k : Nat) : lval (l.take (k + 1)) = lval (l.take k) + lpw k * l.getD k 0 := by
  by_cases h : k < l.length
  · exact lval_take_succ h
  · rw [getD_out (by omega),List.take_of_length_le (by omega),List.take_of_length_le (by omega),Int.mul_zero,Int.add_zero]

theorem at_in (b t len cap : Nat) (l : List Int) (i : Nat) (w : World) (ha : Arr w b t .u32 l) (hl : len ≤ l.length) (hm : len ≤ 4294967296) (hw : Limbs l) (hi : i < len) :
    Calls Tryz.prog 93 #[.slice (some ⟨b,0,none⟩) len cap,.int .i64 i] w fun e w' => e = .returned (.int .u64 (l.getD i 0)) ∧ w = w' := by
  have hc := ha.cell i (by omega)
  have hx := hw.getD i
  generalize l.getD i 0 = x at hc hx ⊢
  obtain ⟨h0,h1⟩ := hx
  go_enter Tryz.func93,Tryz.ntmps93
  go_wp2
  go_ret
  exact ⟨rfl,rfl⟩
theorem at_out (p : Option Addr) (len cap i : Nat) (w : World) (hi : len ≤ i) :
    Calls Tryz.prog 93 #[.slice p len cap,.int .i64 i] w fun e w' => e = .returned (.int .u64 0) ∧ w = w' := by
  have hi' : ¬ i < len := by omega
  go_enter Tryz.func93,Tryz.ntmps93
  go_wp2
  go_ret
  exact ⟨rfl,rfl⟩
theorem at_any {w0 : World} {s : Value} {L : List Int} (h : Limbed w0 s L) (i : Nat) (w : World) (hb : Below w0.heap.size w0 w) :
    Calls Tryz.prog 93 #[s,.int .i64 i] w fun e w' => e = .returned (.int .u64 (L.getD i 0)) ∧ w = w' := by
  rcases h.below hb with ⟨rfl,rfl⟩ | ⟨b,t,len,cap,l,rfl,ha,h1,h2,hw,rfl⟩
  · exact at_out _ _ _ _ w (Nat.zero_le _)
  · by_cases hi : i < len
    · rw [getD_take,if_pos hi]
      exact at_in b t len cap l i w ha h1 (by omega) hw hi
    · rw [getD_take,if_neg hi]
      exact at_out _ _ _ _ w (by omega)

/-- The slice s is the document's number n. -/
def IsNum (w : World) (s : Value) (n : Int) : Prop := ∃ L,Limbed w s L ∧ (L ≠ [] → L.getD (L.length - 1) 0 ≠ 0) ∧ lval L = n
theorem IsNum.below {w w' : World} {s : Value} {n : Int} (h : IsNum w s n) (hb : Below w.heap.size w w') : IsNum w' s n := by
  obtain ⟨L,h1,h2,h3⟩ := h
  exact ⟨L,h1.below hb,h2,h3⟩
theorem IsNum.nonneg {w : World} {s : Value} {n : Int} (h : IsNum w s n) : 0 ≤ n := by
  obtain ⟨L,h1,h2,rfl⟩ := h
  exact (lval_bd h1.limbs).1
theorem isNum_arr {w : World} {b t len cap : Nat} {l : List Int} (ha : Arr w b t .u32 l) (h1 : len ≤ l.length) (h2 : len ≤ 4294967296) (hw : Limbs l) (hz : len ≠ 0 → l.getD (len - 1) 0 ≠ 0) : IsNum w (.slice (some ⟨b,0,none⟩) len cap) (lval (l.take len)) := by
  refine ⟨l.take len,.inr ⟨b,t,len,cap,l,rfl,ha,h1,h2,hw,rfl⟩,fun h => ?_,rfl⟩
  have hl : (l.take len).length = len := by rw [List.length_take,Nat.min_eq_left h1]
  have h0 : len ≠ 0 := by
    rintro rfl
    simp at h
  rw [hl,getD_take,if_pos (by omega)]
  exact hz h0
/-- The document's number n is answered,in memory that is not written again. -/
def RetNum (n : Int) (w : World) (e : Ending) (w' : World) : Prop := ∃ s,e = .returned s ∧ IsNum w' s n ∧ Below w.heap.size w w'

/-- What has come of a sum behind k limbs,the carry c. -/
def SumAt (A B lk : List Int) (n k : Nat) (c : Int) : Prop := (c = 0 ∨ c = 1) ∧ lk.length = n ∧ Limbs lk ∧ lval (lk.take k) + c * lpw k = lval (A.take k) + lval (B.take k)
theorem lin_sum {P a b c hi lo s t r : Int} (he : lo + 4294967296 * hi = c + a + b) (hv : s + c * P = t + r) : s + P * lo + hi * (4294967296 * P) = t + P * a + (r + P * b) := by
  have h2 : P * lo + P * (4294967296 * hi) = P * c + P * a + P * b := by rw [← Int.mul_add,he,Int.mul_add,Int.mul_add]
  have h3 : hi * (4294967296 * P) = P * (4294967296 * hi) := by rw [← Int.mul_assoc,Int.mul_comm (hi * 4294967296) P,Int.mul_comm hi 4294967296]
  have h4 : c * P = P * c := Int.mul_comm _ _
  rw [h3]; omega
theorem take_set (l : List Int) (k : Nat) (x : Int) : (l.set k x).take k = l.take k := by
  rw [List.take_set,List.set_eq_of_length_le (by rw [List.length_take]; omega)]
theorem lval_set {l : List Int} {k : Nat} (h : k < l.length) (x : Int) : lval ((l.set k x).take (k + 1)) = lval (l.take k) + lpw k * x := by
  rw [lval_take_succ (by simpa using h),take_set,getD_set _ _ _ _ h,if_pos rfl]
theorem SumAt.step {A B lk : List Int} {n k : Nat} {c : Int} (h : SumAt A B lk n k c) (hA : Limbs A) (hB : Limbs B) (hk : k < n) :
    SumAt A B (lk.set k ((c + A.getD k 0 + B.getD k 0) % 4294967296)) n (k + 1) ((c + A.getD k 0 + B.getD k 0) / 4294967296) := by
  obtain ⟨hc,hl,hw,hv⟩ := h
  have ha := hA.getD k
  have hb := hB.getD k
  refine ⟨?_,by simpa using hl,hw.set _ ⟨by omega,by omega⟩,?_⟩
  · unfold Limb at ha hb; omega
  · rw [lval_set (by omega),lval_take_next A,lval_take_next B]
    exact lin_sum (by omega) hv
theorem SumAt.done {A B lk : List Int} {n : Nat} {c : Int} (h : SumAt A B lk (n + 1) (n + 1) c) (hA : Limbs A) (hB : Limbs B) (ha : A.length ≤ n) (hb : B.length ≤ n) : lval (lk.take (n + 1)) = lval A + lval B := by
  obtain ⟨hc,hl,hw,hv⟩ := h
  rw [List.take_of_length_le (l := A) (by omega),List.take_of_length_le (l := B) (by omega)] at hv
  have h1 := lval_bd hA
  have h2 := lval_bd hB
  have h3 := lpw_mono ha
  have h4 := lpw_mono hb
  have h5 := lval_bd (hw.take (n + 1))
  have h6 := lpw_pos n
  rcases hc with rfl | rfl
  · omega
  · simp only [lpw,Int.one_mul] at hv
    omega
/-- What has come of a difference behind k limbs,the borrow c. -/
def LessAt (A B lk : List Int) (n k : Nat) (c : Int) : Prop := (c = 0 ∨ c = 1) ∧ lk.length = n ∧ Limbs lk ∧ lval (lk.take k) + lval (B.take k) = lval (A.take k) + c * lpw k
theorem lin_less {P a b c hi lo s t r : Int} (he : lo + c + b = a + 4294967296 * hi) (hv : s + r = t + c * P) : s + P * lo + (r + P * b) = t + P * a + hi * (4294967296 * P) := by
  have h2 : P * lo + P * c + P * b = P * a + P * (4294967296 * hi) := by rw [← Int.mul_add,← Int.mul_add,he,Int.mul_add]
  have h3 : hi * (4294967296 * P) = P * (4294967296 * hi) := by rw [← Int.mul_assoc,Int.mul_comm (hi * 4294967296) P,Int.mul_comm hi 4294967296]
  have h4 : c * P = P * c := Int.mul_comm _ _
  rw [h3]; omega
theorem less_low {a b c : Int} (ha : Limb a) (hb : Limb b) (hc : c = 0 ∨ c = 1) : (a - b - c) % 18446744073709551616 % 4294967296 + c + b = a + 4294967296 * ((a - b - c) % 18446744073709551616 / 9223372036854775808) := by
  unfold Limb at ha hb; omega
theorem less_bit {a b c : Int} (ha : Limb a) (hb : Limb b) (hc : c = 0 ∨ c = 1) : (a - b - c) % 18446744073709551616 / 9223372036854775808 = 0 ∨ (a - b - c) % 18446744073709551616 / 9223372036854775808 = 1 := by
  unfold Limb at ha hb; omega
theorem LessAt.step {A B lk : List Int} {n k : Nat} {c : Int} (h : LessAt A B lk n k c) (hA : Limbs A) (hB : Limbs B) (hk : k < n) :
    LessAt A B (lk.set k ((A.getD k 0 - B.getD k 0 - c) % 18446744073709551616 % 4294967296)) n (k + 1) ((A.getD k 0 - B.getD k 0 - c) % 18446744073709551616 / 9223372036854775808) := by
  obtain ⟨hc,hl,hw,hv⟩ := h
  have ha := hA.getD k
  have hb := hB.getD k
  refine ⟨less_bit ha hb hc,by simpa using hl,hw.set _ ⟨by omega,by omega⟩,?_⟩
  rw [lval_set (by omega),lval_take_next A,lval_take_next B]
  exact lin_less (less_low ha hb hc) hv
theorem LessAt.done {A B lk : List Int} {n : Nat} {c : Int} (h : LessAt A B lk n n c) (ha : A.length = n) (hb : B.length ≤ n) (hle : lval B ≤ lval A) : lval (lk.take n) = lval A - lval B := by
  obtain ⟨hc,hl,hw,hv⟩ := h
  rw [List.take_of_length_le (l := A) (by omega),List.take_of_length_le (l := B) (by omega)] at hv
  have h5 := lval_bd (hw.take n)
  rw [List.length_take,Nat.min_eq_left (by omega)] at h5
  rcases hc with rfl | rfl
  · omega
  · omega
theorem llen_le {A B : List Int} (hA : Limbs A) (hB : Limbs B) (hz : B ≠ [] → B.getD (B.length - 1) 0 ≠ 0) (hle : lval B ≤ lval A) : B.length ≤ A.length := by
  by_cases hc : B.length ≤ A.length
  · exact hc
  · have hne : B ≠ [] := by rintro rfl; simp at hc
    have h1 := lval_low hB (len := B.length) (by omega) (Nat.le_refl _) (hz hne)
    rw [List.take_length] at h1
    have h2 := (lval_bd hA).2
    have h3 := lpw_mono (a := A.length) (b := B.length - 1) (by omega)
    omega
end Go.Proofs.YtlkblgpekbeljaaGreatDoor
