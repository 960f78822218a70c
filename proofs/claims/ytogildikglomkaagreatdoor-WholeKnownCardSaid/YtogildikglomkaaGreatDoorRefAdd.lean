/- Contracts of the document's sums: at,NatAdd,NatSub,NatCmp,over numbers limb by limb. Contracts of the document's products and of its order: NatMul,NatCmp,NatAdd,NatSub. Contracts of the document's NatAdd and NatSub. -/
import Derived.Test.YtogildikglomkaaGreatDoorNatFrom
import Derived.LoopTactic
import Derived.Deep.RegionWith
import Derived.Deep.RegionHeld3
namespace Go.Proofs.YtogildikglomkaaGreatDoor
open Go.RowKit
set_option linter.unusedVariables false

/-- The slice s holds the limbs L,the lowest first. -/
def Limbed (w : World) (s : Value) (L : List Int) : Prop :=
  (s = .slice none 0 0 ∧ L = []) ∨ ∃ b t len cap l,s = .slice (some ⟨b,0,none⟩) len cap ∧ Arr w b t .u32 l ∧ len ≤ l.length ∧ len ≤ 4294967296 ∧ Limbs l ∧ L = l.take len
section
variable {w w' : World} {s : Value} {L : List Int}
theorem Limbed.limbs (h : Limbed w s L) : Limbs L := by
  rcases h with ⟨_,rfl⟩ | ⟨b,t,len,cap,l,_,_,_,_,hw,rfl⟩
  · exact Limbs.nil
  · exact hw.take _
theorem Limbed.short (h : Limbed w s L) : L.length ≤ 4294967296 := by
  rcases h with ⟨_,rfl⟩ | ⟨b,t,len,cap,l,_,_,h1,h2,hw,rfl⟩
  · simp
  · rw [List.length_take]; omega
theorem Limbed.shape (h : Limbed w s L) : ∃ p cap,s = .slice p L.length cap := by
  rcases h with ⟨rfl,rfl⟩ | ⟨b,t,len,cap,l,rfl,_,h1,h2,hw,rfl⟩
  · exact ⟨_,_,rfl⟩
  · rw [List.length_take,Nat.min_eq_left h1]; exact ⟨_,_,rfl⟩
theorem Limbed.below (h : Limbed w s L) (hb : Below w.heap.size w w') : Limbed w' s L := by
  rcases h with h | ⟨b,t,len,cap,l,hv,ha,r⟩
  · exact .inl h
  · exact .inr ⟨b,t,len,cap,l,hv,ha.below hb ha.lt,r⟩
theorem Limbed.below' {B : Nat} (h : Limbed w s L) (hb : Below B w w') (hB : w.heap.size ≤ B) : Limbed w' s L := h.below (hb.mono hB)
end
theorem getD_take (l : List Int) (n i : Nat) : (l.take n).getD i 0 = if i < n then l.getD i 0 else 0 := by
  simp only [List.getD_eq_getElem?_getD,List.getElem?_take]
  split <;> rfl
theorem getD_out {l : List Int} {i : Nat} (h : l.length ≤ i) : l.getD i 0 = 0 := by
  rw [List.getD_eq_getElem?_getD,List.getElem?_eq_none h]; rfl
theorem lval_take_next (l : List Int) (k : Nat) : lval (l.take (k + 1)) = lval (l.take k) + lpw k * l.getD k 0 := by
  by_cases h : k < l.length
  · exact lval_take_succ h
  · rw [getD_out (by omega),List.take_of_length_le (by omega),List.take_of_length_le (by omega),Int.mul_zero,Int.add_zero]

theorem at_in (b t len cap : Nat) (l : List Int) (i : Nat) (w : World) (ha : Arr w b t .u32 l) (hl : len ≤ l.length) (hm : len ≤ 4294967296) (hw : Limbs l) (hi : i < len) :
    Calls Tryz.prog 122 #[.slice (some ⟨b,0,none⟩) len cap,.int .i64 i] w fun e w' => e = .returned (.int .u64 (l.getD i 0)) ∧ w = w' := by
  have hc := ha.cell i (by omega)
  have hx := hw.getD i
  generalize l.getD i 0 = x at hc hx ⊢
  obtain ⟨h0,h1⟩ := hx
  go_enter Tryz.func122,Tryz.ntmps122
  go_wp2
  go_ret
  exact ⟨rfl,rfl⟩
theorem at_out (p : Option Addr) (len cap i : Nat) (w : World) (hi : len ≤ i) :
    Calls Tryz.prog 122 #[.slice p len cap,.int .i64 i] w fun e w' => e = .returned (.int .u64 0) ∧ w = w' := by
  have hi' : ¬ i < len := by omega
  go_enter Tryz.func122,Tryz.ntmps122
  go_wp2
  go_ret
  exact ⟨rfl,rfl⟩
theorem at_any {w0 : World} {s : Value} {L : List Int} (h : Limbed w0 s L) (i : Nat) (w : World) (hb : Below w0.heap.size w0 w) :
    Calls Tryz.prog 122 #[s,.int .i64 i] w fun e w' => e = .returned (.int .u64 (L.getD i 0)) ∧ w = w' := by
  rcases h.below hb with ⟨rfl,rfl⟩ | ⟨b,t,len,cap,l,rfl,ha,h1,h2,hw,rfl⟩
  · exact at_out _ _ _ _ w (Nat.zero_le _)
  · by_cases hi : i < len
    · rw [getD_take,if_pos hi]
      exact at_in b t len cap l i w ha h1 (by omega) hw hi
    · rw [getD_take,if_neg hi]
      exact at_out _ _ _ _ w (by omega)

/-- The slice s is the document's number n. -/
def IsNum (w : World) (s : Value) (n : Int) : Prop := ∃ L,Limbed w s L ∧ (L ≠ [] → L.getD (L.length - 1) 0 ≠ 0) ∧ lval L = n
theorem IsNum.below {w w' : World} {s : Value} {n : Int} (h : IsNum w s n) (hb : Below w.heap.size w w') : IsNum w' s n := by
  obtain ⟨L,h1,h2,h3⟩ := h
  exact ⟨L,h1.below hb,h2,h3⟩
theorem IsNum.nonneg {w : World} {s : Value} {n : Int} (h : IsNum w s n) : 0 ≤ n := by
  obtain ⟨L,h1,h2,rfl⟩ := h
  exact (lval_bd h1.limbs).1
theorem isNum_arr {w : World} {b t len cap : Nat} {l : List Int} (ha : Arr w b t .u32 l) (h1 : len ≤ l.length) (h2 : len ≤ 4294967296) (hw : Limbs l) (hz : len ≠ 0 → l.getD (len - 1) 0 ≠ 0) : IsNum w (.slice (some ⟨b,0,none⟩) len cap) (lval (l.take len)) := by
  refine ⟨l.take len,.inr ⟨b,t,len,cap,l,rfl,ha,h1,h2,hw,rfl⟩,fun h => ?_,rfl⟩
  have hl : (l.take len).length = len := by rw [List.length_take,Nat.min_eq_left h1]
  have h0 : len ≠ 0 := by
    rintro rfl
    simp at h
  rw [hl,getD_take,if_pos (by omega)]
  exact hz h0
/-- The document's number n is answered,in memory that is not written again. -/
def RetNum (n : Int) (w : World) (e : Ending) (w' : World) : Prop := ∃ s,e = .returned s ∧ IsNum w' s n ∧ Below w.heap.size w w'

/-- What has come of a sum behind k limbs,the carry c. -/
def SumAt (A B lk : List Int) (n k : Nat) (c : Int) : Prop := (c = 0 ∨ c = 1) ∧ lk.length = n ∧ Limbs lk ∧ lval (lk.take k) + c * lpw k = lval (A.take k) + lval (B.take k)
theorem lin_sum {P a b c hi lo s t r : Int} (he : lo + 4294967296 * hi = c + a + b) (hv : s + c * P = t + r) : s + P * lo + hi * (4294967296 * P) = t + P * a + (r + P * b) := by
  have h2 : P * lo + P * (4294967296 * hi) = P * c + P * a + P * b := by rw [← Int.mul_add,he,Int.mul_add,Int.mul_add]
  have h3 : hi * (4294967296 * P) = P * (4294967296 * hi) := by rw [← Int.mul_assoc,Int.mul_comm (hi * 4294967296) P,Int.mul_comm hi 4294967296]
  have h4 : c * P = P * c := Int.mul_comm _ _
  rw [h3]; omega
theorem take_set (l : List Int) (k : Nat) (x : Int) : (l.set k x).take k = l.take k := by
  rw [List.take_set,List.set_eq_of_length_le (by rw [List.length_take]; omega)]
theorem lval_set {l : List Int} {k : Nat} (h : k < l.length) (x : Int) : lval ((l.set k x).take (k + 1)) = lval (l.take k) + lpw k * x := by
  rw [lval_take_succ (by simpa using h),take_set,getD_set _ _ _ _ h,if_pos rfl]
theorem SumAt.step {A B lk : List Int} {n k : Nat} {c : Int} (h : SumAt A B lk n k c) (hA : Limbs A) (hB : Limbs B) (hk : k < n) :
    SumAt A B (lk.set k ((c + A.getD k 0 + B.getD k 0) % 4294967296)) n (k + 1) ((c + A.getD k 0 + B.getD k 0) / 4294967296) := by
  obtain ⟨hc,hl,hw,hv⟩ := h
  have ha := hA.getD k
  have hb := hB.getD k
  refine ⟨?_,by simpa using hl,hw.set _ ⟨by omega,by omega⟩,?_⟩
  · unfold Limb at ha hb; omega
  · rw [lval_set (by omega),lval_take_next A,lval_take_next B]
    exact lin_sum (by omega) hv
theorem SumAt.done {A B lk : List Int} {n : Nat} {c : Int} (h : SumAt A B lk (n + 1) (n + 1) c) (hA : Limbs A) (hB : Limbs B) (ha : A.length ≤ n) (hb : B.length ≤ n) : lval (lk.take (n + 1)) = lval A + lval B := by
  obtain ⟨hc,hl,hw,hv⟩ := h
  rw [List.take_of_length_le (l := A) (by omega),List.take_of_length_le (l := B) (by omega)] at hv
  have h1 := lval_bd hA
  have h2 := lval_bd hB
  have h3 := lpw_mono ha
  have h4 := lpw_mono hb
  have h5 := lval_bd (hw.take (n + 1))
  have h6 := lpw_pos n
  rcases hc with rfl | rfl
  · omega
  · simp only [lpw,Int.one_mul] at hv
    omega
/-- What has come of a difference behind k limbs,the borrow c. -/
def LessAt (A B lk : List Int) (n k : Nat) (c : Int) : Prop := (c = 0 ∨ c = 1) ∧ lk.length = n ∧ Limbs lk ∧ lval (lk.take k) + lval (B.take k) = lval (A.take k) + c * lpw k
theorem lin_less {P a b c hi lo s t r : Int} (he : lo + c + b = a + 4294967296 * hi) (hv : s + r = t + c * P) : s + P * lo + (r + P * b) = t + P * a + hi * (4294967296 * P) := by
  have h2 : P * lo + P * c + P * b = P * a + P * (4294967296 * hi) := by rw [← Int.mul_add,← Int.mul_add,he,Int.mul_add]
  have h3 : hi * (4294967296 * P) = P * (4294967296 * hi) := by rw [← Int.mul_assoc,Int.mul_comm (hi * 4294967296) P,Int.mul_comm hi 4294967296]
  have h4 : c * P = P * c := Int.mul_comm _ _
  rw [h3]; omega
theorem less_low {a b c : Int} (ha : Limb a) (hb : Limb b) (hc : c = 0 ∨ c = 1) : (a - b - c) % 18446744073709551616 % 4294967296 + c + b = a + 4294967296 * ((a - b - c) % 18446744073709551616 / 9223372036854775808) := by
  unfold Limb at ha hb; omega
theorem less_bit {a b c : Int} (ha : Limb a) (hb : Limb b) (hc : c = 0 ∨ c = 1) : (a - b - c) % 18446744073709551616 / 9223372036854775808 = 0 ∨ (a - b - c) % 18446744073709551616 / 9223372036854775808 = 1 := by
  unfold Limb at ha hb; omega
theorem LessAt.step {A B lk : List Int} {n k : Nat} {c : Int} (h : LessAt A B lk n k c) (hA : Limbs A) (hB : Limbs B) (hk : k < n) :
    LessAt A B (lk.set k ((A.getD k 0 - B.getD k 0 - c) % 18446744073709551616 % 4294967296)) n (k + 1) ((A.getD k 0 - B.getD k 0 - c) % 18446744073709551616 / 9223372036854775808) := by
  obtain ⟨hc,hl,hw,hv⟩ := h
  have ha := hA.getD k
  have hb := hB.getD k
  refine ⟨less_bit ha hb hc,by simpa using hl,hw.set _ ⟨by omega,by omega⟩,?_⟩
  rw [lval_set (by omega),lval_take_next A,lval_take_next B]
  exact lin_less (less_low ha hb hc) hv
theorem LessAt.done {A B lk : List Int} {n : Nat} {c : Int} (h : LessAt A B lk n n c) (ha : A.length = n) (hb : B.length ≤ n) (hle : lval B ≤ lval A) : lval (lk.take n) = lval A - lval B := by
  obtain ⟨hc,hl,hw,hv⟩ := h
  rw [List.take_of_length_le (l := A) (by omega),List.take_of_length_le (l := B) (by omega)] at hv
  have h5 := lval_bd (hw.take n)
  rw [List.length_take,Nat.min_eq_left (by omega)] at h5
  rcases hc with rfl | rfl
  · omega
  · omega
theorem llen_le {A B : List Int} (hA : Limbs A) (hB : Limbs B) (hz : B ≠ [] → B.getD (B.length - 1) 0 ≠ 0) (hle : lval B ≤ lval A) : B.length ≤ A.length := by
  by_cases hc : B.length ≤ A.length
  · exact hc
  · have hne : B ≠ [] := by rintro rfl; simp at hc
    have h1 := lval_low hB (len := B.length) (by omega) (Nat.le_refl _) (hz hne)
    rw [List.take_length] at h1
    have h2 := (lval_bd hA).2
    have h3 := lpw_mono (a := A.length) (b := B.length - 1) (by omega)
    omega
end Go.Proofs.YtogildikglomkaaGreatDoor

namespace Go.Proofs.YtogildikglomkaaGreatDoor
open Go.RowKit
set_option linter.unusedVariables false

theorem lsame_val {l1 l2 : List Int} {len : Nat} (h1 : len ≤ l1.length) (h2 : len ≤ l2.length) (h : ∀ j,j < len → l1.getD j 0 = l2.getD j 0) : lval (l1.take len) = lval (l2.take len) := by
  rw [← lseg_all,← lseg_all]
  exact lseg_congr (by omega) (by omega) (fun j _ hj => h j (by omega))
theorem lcmp_val {l1 l2 : List Int} {len j : Nat} (h1 : len ≤ l1.length) (h2 : len ≤ l2.length) (hw1 : Limbs l1) (hw2 : Limbs l2) (hj : j < len) (he : ∀ i,j < i → i < len → l1.getD i 0 = l2.getD i 0) (hne : l1.getD j 0 ≠ l2.getD j 0) :
    cmpI (lval (l1.take len)) (lval (l2.take len)) = cmpI (l1.getD j 0) (l2.getD j 0) := by
  obtain ⟨m,rfl⟩ : ∃ m,len = j + 1 + m := ⟨len - (j + 1),by omega⟩
  have b1 := lseg_bd hw1 0 j (by omega)
  have b2 := lseg_bd hw2 0 j (by omega)
  rw [← lseg_all,← lseg_all,lseg_add (l := l1) (o := 0) (k := j + 1) (m := m) (by omega),lseg_add (l := l2) (o := 0) (k := j + 1) (m := m) (by omega),lseg_succ (l := l1) (o := 0) (k := j) (by omega),lseg_succ (l := l2) (o := 0) (k := j) (by omega),
    lseg_congr (l := l1) (l' := l2) (o := 0 + (j + 1)) (k := m) (by omega) (by omega) (fun i hi1 hi2 => he i (by omega) (by omega)),Nat.zero_add]
  exact cmpI_scale (lpw_pos j) b1 b2 hne

theorem Limbed.row {w : World} {s : Value} {L : List Int} (h : Limbed w s L) (hne : L.length ≠ 0) : ∃ b t cap l,s = .slice (some ⟨b,0,none⟩) L.length cap ∧ Arr w b t .u32 l ∧ L.length ≤ l.length ∧ (∀ k,k < L.length → l.getD k 0 = L.getD k 0) ∧ b < w.heap.size := by
  rcases h with ⟨_,rfl⟩ | ⟨b,t,len,cap,l,rfl,ha,h1,h2,hw,rfl⟩
  · exact absurd rfl hne
  · have hl : (l.take len).length = len := by rw [List.length_take,Nat.min_eq_left h1]
    rw [hl]
    exact ⟨b,t,cap,l,rfl,ha,h1,fun k hk => by rw [getD_take,if_pos hk],ha.lt⟩
/-- A row that a call goes through,limb by limb. -/
theorem Limbed.cell {w : World} {b t : Nat} {l L : List Int} (ha : Arr w b t .u32 l) (h1 : L.length ≤ l.length) (he : ∀ k,k < L.length → l.getD k 0 = L.getD k 0) (k : Nat) (hk : k < L.length) : w.cell? ⟨b,k,none⟩ = some (.int .u32 (L.getD k 0)) := by
  rw [← he k hk]; exact ha.cell k (by omega)

theorem cmp_lens {A B : List Int} (hA : Limbs A) (hB : Limbs B) (zA : A ≠ [] → A.getD (A.length - 1) 0 ≠ 0) (zB : B ≠ [] → B.getD (B.length - 1) 0 ≠ 0) (hne : A.length ≠ B.length) : cmpI (lval A) (lval B) = if A.length < B.length then -1 else 1 := by
  unfold cmpI
  by_cases h : A.length < B.length
  · have : ¬ lval B ≤ lval A := fun k => by have := llen_le hA hB zB k; omega
    rw [if_pos h,if_pos (by omega)]
  · have : ¬ lval A ≤ lval B := fun k => by have := llen_le hB hA zA k; omega
    rw [if_neg h,if_neg (by omega),if_pos (by omega)]

/-- Behind i limbs of the one number: their product with the other one. -/
def TimesAt (A B lk : List Int) (i : Nat) : Prop := lk.length = A.length + B.length ∧ Limbs lk ∧ lval (lk.take (i + B.length)) = lval (A.take i) * lval B
/-- Within: behind k limbs of the other one,the carry c. -/
def TimesIn (lz lk B : List Int) (i k : Nat) (a c : Int) : Prop := lk.length = lz.length ∧ Limbs lk ∧ Limb c ∧ (∀ j,i + k ≤ j → lk.getD j 0 = lz.getD j 0) ∧ lval (lk.take (i + k)) + c * lpw (i + k) = lval (lz.take (i + k)) + lpw i * (a * lval (B.take k))
theorem lin_times {P Pi Pk s t a c c' r lo u x : Int} (hP : P = Pi * Pk) (he : lo + 4294967296 * c' = c + r + a * x) (hv : s + c * P = t + Pi * (a * u)) :
    s + P * lo + c' * (4294967296 * P) = t + P * r + Pi * (a * (u + Pk * x)) := by
  have h2 : P * lo + P * (4294967296 * c') = P * c + P * r + P * (a * x) := by rw [← Int.mul_add,he,Int.mul_add,Int.mul_add]
  have h3 : c' * (4294967296 * P) = P * (4294967296 * c') := by rw [← Int.mul_assoc,Int.mul_comm (c' * 4294967296) P,Int.mul_comm c' 4294967296]
  have h4 : c * P = P * c := Int.mul_comm _ _
  have h5 : Pi * (a * (u + Pk * x)) = Pi * (a * u) + P * (a * x) := by
    rw [Int.mul_add,Int.mul_add,hP,Int.mul_assoc,Int.mul_left_comm a Pk x]
  rw [h3,h5]; omega
theorem times_bd {a x : Int} (ha : Limb a) (hx : Limb x) : 0 ≤ a * x ∧ a * x ≤ 18446744065119617025 := by
  obtain ⟨a0,a1⟩ := ha
  obtain ⟨x0,x1⟩ := hx
  refine ⟨Int.mul_nonneg a0 x0,?_⟩
  have h1 : a * x ≤ 4294967295 * x := Int.mul_le_mul_of_nonneg_right (by omega) x0
  omega
theorem TimesIn.step {lz lk B : List Int} {i k : Nat} {a c : Int} (h : TimesIn lz lk B i k a c) (hi : i + k < lz.length) (hz : Limbs lz) (hB : Limbs B) (ha : Limb a) :
    TimesIn lz (lk.set (i + k) ((c + lz.getD (i + k) 0 + a * B.getD k 0) % 4294967296)) B i (k + 1) a ((c + lz.getD (i + k) 0 + a * B.getD k 0) / 4294967296) := by
  obtain ⟨hlen,hw,hc,hrest,hval⟩ := h
  have wr := hz.getD (i + k)
  have wx := hB.getD k
  have hb := times_bd ha wx
  refine ⟨by simp [hlen],hw.set _ ⟨by omega,by omega⟩,?_,?_,?_⟩
  · generalize a * B.getD k 0 = p at *
    unfold Limb at *
    omega
  · intro j hj
    rw [getD_set _ _ _ _ (by omega),if_neg (by omega)]
    exact hrest j (by omega)
  · rw [← Nat.add_assoc,lval_set (by omega),lval_take_next lz,lval_take_next B]
    exact lin_times (lpw_add i k) (by omega) hval
theorem TimesAt.step {lz lk A B : List Int} {i : Nat} {c : Int} (h : TimesAt A B lz i) (hi : i < A.length) (hin : TimesIn lz lk B i B.length (A.getD i 0) c) : TimesAt A B (lk.set (i + B.length) c) (i + 1) := by
  obtain ⟨hlen,hw,hval⟩ := h
  obtain ⟨glen,gw,gc,grest,gval⟩ := hin
  refine ⟨by simp [glen,hlen],gw.set _ gc,?_⟩
  rw [Nat.add_right_comm,lval_set (by omega),lval_take_next A,Int.add_mul,← hval]
  rw [List.take_length] at gval
  rw [Int.mul_comm (lpw (i + B.length)) c,gval,Int.mul_assoc]
end Go.Proofs.YtogildikglomkaaGreatDoor

namespace Go.Proofs.YtogildikglomkaaGreatDoor
open Go.RowKit
set_option linter.unusedVariables false

set_option maxRecDepth 100000 in
set_option maxHeartbeats 1000000 in
theorem natAdd_any (sa sb : Value) (A B : List Int) (w : World) (ha : Limbed w sa A) (hb : Limbed w sb B) (hsa : A.length ≤ 1048576) (hsb : B.length ≤ 1048576) :
    Calls Tryz.prog 123 #[sa,sb] w (RetNum (lval A + lval B) w) := by
  obtain ⟨pa,ca,rfl⟩ := ha.shape
  obtain ⟨pb,cb,rfl⟩ := hb.shape
  have hla := ha.short
  have hlb := hb.short
  have wa := ha.limbs
  have wb := hb.limbs
  obtain ⟨n,hn⟩ : ∃ n : Nat,max A.length B.length = n := ⟨_,rfl⟩
  have hni : max (A.length : Int) B.length = n := by omega
  have hnb : n ≤ 1048576 := by omega
  have hmk := make32 (n + 1) ((n : Int) + 1) (by omega) (by omega)
  have Hn := Lib.hid hn
  clear hn
  go_enter Tryz.func123,Tryz.ntmps123
  go_wp2_with (rw [hni])
  go_loopw [7,8] (fun c i wr => ∃ (k : Nat) (cv : Int) (lk : List Int),k ≤ n + 1 ∧ i = .int .i64 k ∧ c = .int .u64 cv ∧ SumAt A B lk (n + 1) k cv ∧ Arr wr w.heap.size 101 .u32 lk ∧ Below w.heap.size w wr) (fun _ i _ => n + 1 - (intOf i).toNat)
  case atStart => exact ⟨0,0,_,Nat.zero_le _,rfl,rfl,⟨.inl rfl,by simp,Limbs.replicate _,by simp [lval]⟩,Arr.zeros _ _ _ _ _ rfl,by go_grown⟩
  case round =>
    obtain ⟨k,cv,lk,hk,rfl,rfl,hat,hak,hB⟩ := hrel
    by_cases hlt : k ≤ n
    · have la := fun W (g : Below w.heap.size w W) => at_any ha k W g
      have lb := fun W (g : Below w.heap.size w W) => at_any hb k W g
      have hlen := hat.2.1
      have hco := hak.cell k (by omega)
      have hfo := hak.free k
      have xa := wa.getD k
      have xb := wb.getD k
      have hc := hat.1
      have st := hat.step wa wb (by omega)
      obtain ⟨x,hx⟩ : ∃ x,A.getD k 0 = x := ⟨_,rfl⟩
      obtain ⟨y,hy⟩ : ∃ y,B.getD k 0 = y := ⟨_,rfl⟩
      rw [hx] at la xa st
      rw [hy] at lb xb st
      obtain ⟨xa0,xa1⟩ := xa
      obtain ⟨xb0,xb1⟩ := xb
      have c0 : 0 ≤ cv := by omega
      have c1 : cv ≤ 1 := by omega
      have St := Lib.hid st
      have Hlen := Lib.hid hlen
      generalize lk.getD k 0 = z at hco
      clear st hlen hat hc hx hy hmk hni
      go_wp2_with (go_at_call 122; (first | (have q := la _ hB; (with_reducible refine q.mono ?_); clear q) | (have q := lb _ hB; (with_reducible refine q.mono ?_); clear q)); rintro e W1 ⟨rfl,rfl⟩)
      exact ⟨⟨k + 1,_,_,by omega,by go_num,rfl,St.out,hak.set _ _,hB.setCell (p := ⟨w.heap.size,k,none⟩) (Nat.le_refl _) _⟩,by simp [intOf]; omega⟩
    · obtain rfl : k = n + 1 := by omega
      have hd := hat.done wa wb (by have := Hn.out; omega) (by have := Hn.out; omega)
      have hw2 := hat.2.2.1
      have hlen := hat.2.1
      have tr := ltrim_any w.heap.size 101 (n + 1) (n + 1) lk wr hak (Nat.le_refl _) (by omega) (by omega)
      have l1 := trimLen_le lk (n + 1)
      have l2 := trimLen_last lk (n + 1)
      have l3 := lval_trim lk (n + 1) (by omega)
      generalize trimLen lk (n + 1) = m at tr l1 l2 l3
      have H2 := Lib.hid l2
      have H3 := Lib.hid (l3.trans hd)
      have Hlen := Lib.hid hlen
      clear l2 l3 hd hat hmk hni hlen
      go_wp2_with (go_at_call 59; refine tr.mono ?_; rintro e W1 ⟨rfl,rfl⟩)
      go_ret
      have hn := isNum_arr hak (len := m) (cap := n + 1) (by have := Hlen.out; omega) (by have := Hlen.out; omega) hw2 H2.out
      rw [H3.out] at hn
      exact ⟨_,rfl,hn,hB⟩
set_option maxRecDepth 100000 in
set_option maxHeartbeats 1000000 in
theorem natSub_any (sa sb : Value) (A B : List Int) (w : World) (ha : Limbed w sa A) (hb : Limbed w sb B) (hle : lval B ≤ lval A) (hz : B ≠ [] → B.getD (B.length - 1) 0 ≠ 0) :
    Calls Tryz.prog 124 #[sa,sb] w (RetNum (lval A - lval B) w) := by
  obtain ⟨pa,ca,rfl⟩ := ha.shape
  have hla := ha.short
  have wa := ha.limbs
  have wb := hb.limbs
  have hmk := make32 A.length A.length rfl (by omega)
  go_enter Tryz.func124,Tryz.ntmps124
  go_wp2_with fail
  go_loopw [6,7] (fun c i wr => ∃ (k : Nat) (cv : Int) (lk : List Int),k ≤ A.length ∧ i = .int .i64 k ∧ c = .int .u64 cv ∧ LessAt A B lk A.length k cv ∧ Arr wr w.heap.size 101 .u32 lk ∧ Below w.heap.size w wr) (fun _ i _ => A.length - (intOf i).toNat)
  case atStart => exact ⟨0,0,_,Nat.zero_le _,rfl,rfl,⟨.inl rfl,by simp,Limbs.replicate _,by simp [lval]⟩,Arr.zeros _ _ _ _ _ rfl,by go_grown⟩
  case round =>
    obtain ⟨k,cv,lk,hk,rfl,rfl,hat,hak,hB⟩ := hrel
    by_cases hlt : k < A.length
    · have lb := fun W (g : Below w.heap.size w W) => at_any hb k W g
      obtain ⟨rb,rt,rc,rl,hs,hra,hr1,hr2,hr3⟩ := ha.row (by omega)
      simp only [Value.slice.injEq] at hs
      obtain ⟨rfl,_,rfl⟩ := hs
      have hcx := Limbed.cell (hra.below hB hr3) hr1 hr2 k hlt
      have hlen := hat.2.1
      have hco := hak.cell k (by omega)
      have hfo := hak.free k
      have xa := wa.getD k
      have xb := wb.getD k
      have hc := hat.1
      have st := hat.step wa wb (by omega)
      obtain ⟨x,hx⟩ : ∃ x,A.getD k 0 = x := ⟨_,rfl⟩
      obtain ⟨y,hy⟩ : ∃ y,B.getD k 0 = y := ⟨_,rfl⟩
      rw [hx] at hcx xa st
      rw [hy] at lb xb st
      obtain ⟨xa0,xa1⟩ := xa
      obtain ⟨xb0,xb1⟩ := xb
      have c0 : 0 ≤ cv := by omega
      have c1 : cv ≤ 1 := by omega
      have St := Lib.hid st
      generalize lk.getD k 0 = z at hco
      have Ew : Hid (IntKind.u64.wrap (IntKind.u64.wrap (IntKind.u64.wrap x - y) - cv) = (x - y - cv) % 18446744073709551616) := Lib.hid (by simp only [IntKind.wrap_u64]; omega)
      have d0 : 0 ≤ (x - y - cv) % 18446744073709551616 := by omega
      have d1 : (x - y - cv) % 18446744073709551616 < 18446744073709551616 := by omega
      have hcx' : wr.drew.cell? ⟨rb,k,none⟩ = some (.int .u32 x) := hcx
      clear st hlen hat hc hx hy hmk
      go_wp2_with fail
      go_region_held3 (fun w' => w'.cell? ⟨rb,k,none⟩ = some (.int .u32 x)) (first | with_reducible exact hcx | with_reducible exact hcx') (first | (go_at_call 122; (first | (have q := lb _ hB; (with_reducible refine q.mono ?_); clear q) | (have q := lb _ hB.drew; (with_reducible refine q.mono ?_); clear q)); rintro e W1 ⟨rfl,rfl⟩))
      all_goals
        rw [Ew.out]
        generalize (x - y - cv) % 18446744073709551616 = D at St d0 d1
        go_wp2_with fail
        first | exact ⟨⟨k + 1,_,_,by omega,by go_num,rfl,St.out,hak.set _ _,hB.setCell (p := ⟨w.heap.size,k,none⟩) (Nat.le_refl _) _⟩,by simp [intOf]; omega⟩ | exact ⟨⟨k + 1,_,_,by omega,by go_num,rfl,St.out,hak.set _ _,(hB.setCell (p := ⟨w.heap.size,k,none⟩) (Nat.le_refl _) _).drew⟩,by simp [intOf]; omega⟩
    · obtain rfl : k = A.length := by omega
      have hd := hat.done rfl (llen_le wa wb hz hle) hle
      have hw2 := hat.2.2.1
      have hlen := hat.2.1
      have tr := ltrim_any w.heap.size 101 A.length A.length lk wr hak (Nat.le_refl _) (by omega) (by omega)
      have l1 := trimLen_le lk A.length
      have l2 := trimLen_last lk A.length
      have l3 := lval_trim lk A.length (by omega)
      generalize trimLen lk A.length = m at tr l1 l2 l3
      have H2 := Lib.hid l2
      have H3 := Lib.hid (l3.trans hd)
      have Hlen := Lib.hid hlen
      clear l2 l3 hd hat hmk hlen
      go_wp2_with (go_at_call 59; refine tr.mono ?_; rintro e W1 ⟨rfl,rfl⟩)
      go_ret
      have hn := isNum_arr hak (len := m) (cap := A.length) (by have := Hlen.out; omega) (by have := Hlen.out; omega) hw2 H2.out
      rw [H3.out] at hn
      exact ⟨_,rfl,hn,hB⟩
set_option maxRecDepth 100000 in
set_option maxHeartbeats 2000000 in
theorem natCmp_any (sa sb : Value) (A B : List Int) (w : World) (ha : Limbed w sa A) (hb : Limbed w sb B) (zA : A ≠ [] → A.getD (A.length - 1) 0 ≠ 0) (zB : B ≠ [] → B.getD (B.length - 1) 0 ≠ 0) :
    Calls Tryz.prog 31 #[sa,sb] w fun e w' => e = .returned (.int .i64 (cmpI (lval A) (lval B))) ∧ Below w.heap.size w w' := by
  obtain ⟨pa,ca,rfl⟩ := ha.shape
  obtain ⟨pb,cb,rfl⟩ := hb.shape
  have hla := ha.short
  have hlb := hb.short
  have wa := ha.limbs
  have wb := hb.limbs
  by_cases hne : A.length = B.length
  · obtain ⟨V,hV⟩ : ∃ V,cmpI (lval A) (lval B) = V := ⟨_,rfl⟩
    rw [hV]
    have HV := Lib.hid hV
    have Hne := Lib.hid hne
    have ka : A.length ≤ 4294967296 := hla
    rw [← hne]
    clear hV hne
    go_enter Tryz.func31,Tryz.ntmps31
    go_wp2_with fail
    go_loopw [5] (fun i wr => ∃ k : Nat,k ≤ A.length ∧ i = .int .i64 ((k : Int) - 1) ∧ (∀ j,k ≤ j → j < A.length → A.getD j 0 = B.getD j 0) ∧ Below w.heap.size w wr) (fun i _ => (intOf i + 1).toNat)
    case atStart => exact ⟨A.length,Nat.le_refl _,rfl,fun j h1 h2 => by omega,Below.refl _ _⟩
    case round =>
      obtain ⟨k,hk,rfl,heq,hW⟩ := hrel
      cases k with
      | zero =>
        have hv : V = 0 := by
          rw [← HV.out]
          have := lsame_val (l1 := A) (l2 := B) (len := A.length) (Nat.le_refl _) (by have := Hne.out; omega) (fun j hj => heq j (Nat.zero_le _) hj)
          rw [List.take_length,List.take_of_length_le (by have := Hne.out; omega)] at this
          exact cmpI_eq this
        subst hv
        clear heq
        go_wp2_with fail
        go_ret
        exact ⟨rfl,hW⟩
      | succ k =>
        obtain ⟨rb,rt,rc,rl,hs,hra,hr1,hr2,hr3⟩ := ha.row (by omega)
        simp only [Value.slice.injEq] at hs
        obtain ⟨rfl,_,rfl⟩ := hs
        obtain ⟨qb,qt,qc,ql,hs,hqa,hq1,hq2,hq3⟩ := hb.row (by have := Hne.out; omega)
        simp only [Value.slice.injEq] at hs
        obtain ⟨rfl,_,rfl⟩ := hs
        have hcx := Limbed.cell (hra.below hW hr3) hr1 hr2 k (by omega)
        have hcy := Limbed.cell (hqa.below hW hq3) hq1 hq2 k (by have := Hne.out; omega)
        have hv := fun h => lcmp_val (l1 := A) (l2 := B) (len := A.length) (j := k) (Nat.le_refl _) (by have := Hne.out; omega) wa wb (by omega) (fun i h1 h2 => heq i (by omega) h2) h
        rw [List.take_length,List.take_of_length_le (by have := Hne.out; omega)] at hv
        have hk1 : ((k : Int) + 1 - 1) = k := by omega
        obtain ⟨x,hx⟩ : ∃ x,A.getD k 0 = x := ⟨_,rfl⟩
        obtain ⟨y,hy⟩ : ∃ y,B.getD k 0 = y := ⟨_,rfl⟩
        rw [hx] at hcx hv
        rw [hy] at hcy hv
        have Heq := Lib.hid heq
        have Hx := Lib.hid hx
        have Hy := Lib.hid hy
        clear heq hx hy hq2 hr2
        by_cases hxy : x = y
        · have Hxy := Lib.hid hxy
          have hxy' : (x != y) = false := by simp [hxy]
          have Hs : Hid (∀ j,k ≤ j → j < A.length → A.getD j 0 = B.getD j 0) := Lib.hid (fun j h1 h2 => by
            by_cases e : j = k
            · subst e; rw [Hx.out,Hy.out]; exact Hxy.out
            · exact Heq.out j (by omega) h2)
          clear hv hxy
          go_wp2_with fail
          go_region
          all_goals
            go_wp2_with fail
            first | exact ⟨⟨k,by omega,by go_num,Hs.out,hW⟩,by simp [intOf]⟩ | exact ⟨⟨k,by omega,by go_num,Hs.out,hW.drew⟩,by simp [intOf]⟩
        · have Hv := HV.out.symm.trans (hv hxy)
          have hxy' : (x != y) = true := by simp [hxy]
          clear hv
          by_cases hlt : x < y
          · rw [cmpI_lt hlt] at Hv
            subst Hv
            go_wp2_with fail
            go_region
            all_goals
              go_wp2_with fail
              go_region
              all_goals
                go_wp2_with fail
                go_ret
                first | exact ⟨rfl,hW⟩ | exact ⟨rfl,hW.drew⟩ | exact ⟨rfl,hW.drew.drew⟩
          · rw [cmpI_gt (by omega)] at Hv
            subst Hv
            go_wp2_with fail
            go_region
            all_goals
              go_wp2_with fail
              go_region
              all_goals
                go_wp2_with fail
                go_ret
                first | exact ⟨rfl,hW⟩ | exact ⟨rfl,hW.drew⟩ | exact ⟨rfl,hW.drew.drew⟩
  · rw [cmp_lens wa wb zA zB hne]
    have hne' : ((A.length : Int) != B.length) = true := by simp; omega
    by_cases hlt : A.length < B.length
    · rw [if_pos hlt]
      go_enter Tryz.func31,Tryz.ntmps31
      go_wp2_with fail
      go_ret
      exact ⟨rfl,Below.refl _ _⟩
    · rw [if_neg hlt]
      go_enter Tryz.func31,Tryz.ntmps31
      go_wp2_with fail
      go_ret
      exact ⟨rfl,Below.refl _ _⟩
set_option maxRecDepth 100000 in
set_option maxHeartbeats 2000000 in
theorem natMul_any (sa sb : Value) (A B : List Int) (w : World) (ha : Limbed w sa A) (hb : Limbed w sb B) (hsa : A.length ≤ 1048576) (hsb : B.length ≤ 1048576) :
    Calls Tryz.prog 60 #[sa,sb] w (RetNum (lval A * lval B) w) := by
  obtain ⟨pa,ca,rfl⟩ := ha.shape
  obtain ⟨pb,cb,rfl⟩ := hb.shape
  have hla := ha.short
  have hlb := hb.short
  have wa := ha.limbs
  have wb := hb.limbs
  have hmk := make32 (A.length + B.length) ((A.length : Int) + B.length) (by omega) (by omega)
  go_enter Tryz.func60,Tryz.ntmps60
  go_wp2_with fail
  go_loopw [6] (fun i wr => ∃ (k : Nat) (lk : List Int),k ≤ A.length ∧ i = .int .i64 k ∧ TimesAt A B lk k ∧ Arr wr w.heap.size 101 .u32 lk ∧ Below w.heap.size w wr) (fun i _ => A.length - (intOf i).toNat)
  case atStart => exact ⟨0,_,Nat.zero_le _,rfl,⟨by simp,Limbs.replicate _,by rw [List.take_replicate,lval_replicate]; simp [lval]⟩,Arr.zeros _ _ _ _ _ rfl,by go_grown⟩
  case round =>
    obtain ⟨i,lz,hi,rfl,hat,haz,hB⟩ := hrel
    obtain ⟨wo,rfl⟩ : ∃ wo : World,wo = wr := ⟨_,rfl⟩
    by_cases hlt : i < A.length
    · obtain ⟨rb,rt,rc,rl,hs,hra,hr1,hr2,hr3⟩ := ha.row (by omega)
      simp only [Value.slice.injEq] at hs
      obtain ⟨rfl,_,rfl⟩ := hs
      have xa := wa.getD i
      have hcA := fun W (g : Below w.heap.size w W) => Limbed.cell (hra.below g hr3) hr1 hr2 i hlt
      obtain ⟨x,hx⟩ : ∃ x,A.getD i 0 = x := ⟨_,rfl⟩
      rw [hx] at hcA xa
      have Hx := Lib.hid hx
      have Hat := Lib.hid hat
      have Xa := Lib.hid xa
      clear hx hat xa hmk
      go_wp2_with fail
      go_loopw [7,8] (fun c j wr => ∃ (k : Nat) (cv : Int) (lk : List Int),k ≤ B.length ∧ j = .int .i64 k ∧ c = .int .u64 cv ∧ TimesIn lz lk B i k x cv ∧ Arr wr w.heap.size 101 .u32 lk ∧ Below w.heap.size w wr) (fun _ j _ => B.length - (intOf j).toNat)
      case atStart => exact ⟨0,0,lz,Nat.zero_le _,rfl,rfl,⟨rfl,Hat.out.2.1,⟨by decide,by decide⟩,fun _ _ => rfl,by simp [lval]⟩,haz,hB⟩
      case round =>
        obtain ⟨k,cv,lk,hk,rfl,rfl,hin,hak,hB2⟩ := hrel
        by_cases hlk : k < B.length
        · obtain ⟨qb,qt,qc,ql,hs,hqa,hq1,hq2,hq3⟩ := hb.row (by omega)
          simp only [Value.slice.injEq] at hs
          obtain ⟨rfl,_,rfl⟩ := hs
          have hcx := hcA _ hB2
          have hcy := Limbed.cell (hqa.below hB2 hq3) hq1 hq2 k hlk
          have hlen := hin.1
          have hl2 := Hat.out.1
          have hco := hak.cell (i + k) (by omega)
          have hfo := hak.free (i + k)
          rw [hin.2.2.2.1 (i + k) (Nat.le_refl _)] at hco
          have xb := wb.getD k
          have xz := Hat.out.2.1.getD (i + k)
          have hcv := hin.2.2.1
          have hxy := times_bd Xa.out xb
          have st := hin.step (by omega) Hat.out.2.1 wb Xa.out
          obtain ⟨y,hy⟩ : ∃ y,B.getD k 0 = y := ⟨_,rfl⟩
          obtain ⟨z,hz⟩ : ∃ z,lz.getD (i + k) 0 = z := ⟨_,rfl⟩
          rw [hy] at hcy xb hxy st
          rw [hz] at hco xz st
          obtain ⟨xa0,xa1⟩ := Xa.out
          obtain ⟨xb0,xb1⟩ := xb
          obtain ⟨xz0,xz1⟩ := xz
          obtain ⟨cv0,cv1⟩ := hcv
          obtain ⟨P,hP⟩ : ∃ P,x * y = P := ⟨_,rfl⟩
          rw [hP] at hxy st
          obtain ⟨p0,p1⟩ := hxy
          have St := Lib.hid st
          have Ew : Hid (IntKind.u64.wrap (IntKind.u64.wrap (cv + IntKind.u64.wrap z) + IntKind.u64.wrap (IntKind.u64.wrap x * IntKind.u64.wrap y)) = cv + z + P) := Lib.hid (by
            have e1 : IntKind.u64.wrap x = x := by rw [IntKind.wrap_u64]; omega
            have e2 : IntKind.u64.wrap y = y := by rw [IntKind.wrap_u64]; omega
            rw [e1,e2,hP]; simp only [IntKind.wrap_u64]; omega)
          have d0 : 0 ≤ cv + z + P := by omega
          have d1 : cv + z + P < 18446744073709551616 := by omega
          have hik : IntKind.i64.wrap ((i : Int) + k) = (i : Int) + k := by rw [IntKind.wrap_i64]; omega
          have hik0 : (0 : Int) ≤ (i : Int) + k := by omega
          have hik1 : (i : Int) + k < (A.length : Int) + B.length := by omega
          have hik2 : ((i : Int) + k).toNat = i + k := by omega
          have Dc : (wr.drew.cell? ⟨rb,i,none⟩ = some (.int .u32 x) ∧ wr.drew.cell? ⟨qb,k,none⟩ = some (.int .u32 y) ∧ wr.drew.cell? ⟨w.heap.size,i + k,none⟩ = some (.int .u32 z)) := ⟨hcx,hcy,hco⟩
          clear st hlen hl2 hin hy hz hP hq2 hr2 hcA
          go_wp2_with fail
          go_region_held3 (fun w' => w'.cell? ⟨rb,i,none⟩ = some (.int .u32 x) ∧ w'.cell? ⟨qb,k,none⟩ = some (.int .u32 y) ∧ w'.cell? ⟨w.heap.size,i + k,none⟩ = some (.int .u32 z)) (first | with_reducible exact ⟨hcx,hcy,hco⟩ | with_reducible exact Dc) (fail)
          all_goals
            rw [Ew.out]
            generalize cv + z + P = D at St d0 d1
            go_wp2_with fail
            first | exact ⟨⟨k + 1,_,_,by omega,by go_num,rfl,St.out,hak.set _ _,hB2.setCell (p := ⟨w.heap.size,i + k,none⟩) (Nat.le_refl _) _⟩,by simp [intOf]; omega⟩ | exact ⟨⟨k + 1,_,_,by omega,by go_num,rfl,St.out,hak.set _ _,(hB2.setCell (p := ⟨w.heap.size,i + k,none⟩) (Nat.le_refl _) _).drew⟩,by simp [intOf]; omega⟩
        · obtain rfl : k = B.length := by omega
          have hl2 := Hat.out.1
          have hlk2 := hin.1
          have st := Hat.out.step hlt (by rw [Hx.out]; exact hin)
          have hco := hak.cell (i + B.length) (by omega)
          have hfo := hak.free (i + B.length)
          generalize lk.getD (i + B.length) 0 = z at hco
          have hcv := hin.2.2.1
          obtain ⟨cv0,cv1⟩ := hcv
          have St := Lib.hid st
          clear st hin hl2 hlk2
          go_wp2_with fail
          exact ⟨⟨i + 1,_,by omega,by go_num,St.out,hak.set _ _,hB2.setCell (p := ⟨w.heap.size,i + B.length,none⟩) (Nat.le_refl _) _⟩,by simp [intOf]; omega⟩
    · obtain rfl : i = A.length := by omega
      have hlen := hat.1
      have hw2 := hat.2.1
      have hd := hat.2.2
      rw [List.take_length,← List.length_append] at hd
      rw [List.length_append] at hd
      have tr := ltrim_any w.heap.size 101 (A.length + B.length) (A.length + B.length) lz wo haz (Nat.le_refl _) (by omega) (by omega)
      have l1 := trimLen_le lz (A.length + B.length)
      have l2 := trimLen_last lz (A.length + B.length)
      have l3 := lval_trim lz (A.length + B.length) (by omega)
      generalize trimLen lz (A.length + B.length) = m at tr l1 l2 l3
      have H2 := Lib.hid l2
      have H3 := Lib.hid (l3.trans hd)
      have Hlen := Lib.hid hlen
      clear l2 l3 hd hat hmk hlen
      go_wp2_with (go_at_call 59; refine tr.mono ?_; rintro e W1 ⟨rfl,rfl⟩)
      go_ret
      have hn := isNum_arr haz (len := m) (cap := A.length + B.length) (by have := Hlen.out; omega) (by have := Hlen.out; omega) hw2 H2.out
      rw [H3.out] at hn
      exact ⟨_,rfl,hn,hB⟩
end Go.Proofs.YtogildikglomkaaGreatDoor
