/- Limb -/
import Derived.Test.YtgccgacpifebbaaGreatDoorZb01
import Derived.Test.YtgccgacpifebbaaGreatDoorZb02
namespace Go.Proofs.YtgccgacpifebbaaGreatDoor
open Go.RowKit
set_option linter.unusedVariables false
def Limb (x : Int) : Prop := 0 ≤ x ∧ x < 4294967296
def Limbs (l : List Int) : Prop := ∀ x ∈ l,Limb x
/-- What words are worth,the lowest first. -/
def lval : List Int → Int
  | [] => 0
  | x :: l => x + 4294967296 * lval l
/-- 2^64 to the n. -/
def lpw : Nat → Int
  | 0 => 1
  | n + 1 => 4294967296 * lpw n
theorem lpw_pos : ∀ n,0 < lpw n
  | 0 => by decide
  | n + 1 => by have := lpw_pos n; unfold lpw; omega
theorem lpw_add (m n : Nat) : lpw (m + n) = lpw m * lpw n := by
  induction m with
  | zero => simp [lpw]
  | succ m ih => rw [Nat.add_right_comm]; simp only [lpw,ih,Int.mul_assoc]
theorem lval_append (a b : List Int) : lval (a ++ b) = lval a + lpw a.length * lval b := by
  induction a with
  | nil => simp [lval,lpw]
  | cons x l ih => simp only [List.cons_append,lval,ih,List.length_cons,lpw,Int.mul_add,Int.mul_assoc]; omega
theorem Limbs.nil : Limbs [] := fun _ h => by cases h
theorem Limbs.cons {x : Int} {l : List Int} (hx : Limb x) (h : Limbs l) : Limbs (x :: l) := by
  intro y hy
  rcases List.mem_cons.1 hy with rfl | hy
  · exact hx
  · exact h y hy
theorem Limbs.append {a b : List Int} (ha : Limbs a) (hb : Limbs b) : Limbs (a ++ b) := by
  intro y hy
  rcases List.mem_append.1 hy with hy | hy
  · exact ha y hy
  · exact hb y hy
theorem Limbs.take {l : List Int} (h : Limbs l) (n : Nat) : Limbs (l.take n) := fun y hy => h y (List.mem_of_mem_take hy)
theorem Limbs.drop {l : List Int} (h : Limbs l) (n : Nat) : Limbs (l.drop n) := fun y hy => h y (List.mem_of_mem_drop hy)
theorem Limbs.getD {l : List Int} (h : Limbs l) (i : Nat) : Limb (l.getD i 0) := by
  by_cases hi : i < l.length
  · rw [List.getD_eq_getElem?_getD,List.getElem?_eq_getElem hi]; exact h _ (List.getElem_mem hi)
  · rw [List.getD_eq_getElem?_getD,List.getElem?_eq_none (by omega)]; exact ⟨by decide,by decide⟩
theorem Limbs.set {l : List Int} (h : Limbs l) (i : Nat) {x : Int} (hx : Limb x) : Limbs (l.set i x) := by
  intro y hy
  rcases List.mem_or_eq_of_mem_set hy with hy | rfl
  · exact h y hy
  · exact hx
theorem Limbs.replicate (n : Nat) : Limbs (List.replicate n 0) := by
  intro y hy
  rw [List.eq_of_mem_replicate hy]; exact ⟨by decide,by decide⟩
theorem lval_bd {l : List Int} (h : Limbs l) : 0 ≤ lval l ∧ lval l < lpw l.length := by
  induction l with
  | nil => simp [lval,lpw]
  | cons x l ih =>
    have hx := h x (by simp)
    have := ih (fun y hy => h y (by simp [hy]))
    unfold Limb at hx
    simp only [lval,List.length_cons,lpw]
    omega
theorem lval_take_succ {l : List Int} {k : Nat} (h : k < l.length) : lval (l.take (k + 1)) = lval (l.take k) + lpw k * l.getD k 0 := by
  rw [take_snoc l k 0 h,lval_append]
  simp only [List.length_take,lval,Int.mul_zero,Int.add_zero,Nat.min_eq_left (Nat.le_of_lt h)]
/-- What k words from place o on are worth. -/
def lseg (l : List Int) (o k : Nat) : Int := lval ((l.drop o).take k)
theorem lseg_zero (l : List Int) (o : Nat) : lseg l o 0 = 0 := by simp [lseg,lval]
theorem lseg_succ {l : List Int} {o k : Nat} (h : o + k < l.length) : lseg l o (k + 1) = lseg l o k + lpw k * l.getD (o + k) 0 := by
  unfold lseg
  rw [lval_take_succ (by rw [List.length_drop]; omega),getD_drop]
theorem lseg_bd {l : List Int} (h : Limbs l) (o k : Nat) (hk : o + k ≤ l.length) : 0 ≤ lseg l o k ∧ lseg l o k < lpw k := by
  have := lval_bd ((h.drop o).take k)
  rw [List.length_take,List.length_drop,Nat.min_eq_left (by omega)] at this
  exact this
theorem lseg_all (l : List Int) (k : Nat) : lseg l 0 k = lval (l.take k) := by simp [lseg]
theorem lseg_add {l : List Int} {o k m : Nat} (h : o + k + m ≤ l.length) : lseg l o (k + m) = lseg l o k + lpw k * lseg l (o + k) m := by
  induction m with
  | zero => rw [Nat.add_zero,lseg_zero]; omega
  | succ m ih =>
    rw [← Nat.add_assoc,lseg_succ (by omega),ih (by omega),lseg_succ (by omega),lpw_add,Int.mul_add,Int.mul_assoc,Nat.add_assoc]
    omega
theorem lpw_two (n : Nat) : lpw n = 2 ^ (32 * n) := by
  induction n with
  | zero => rfl
  | succ n ih => simp only [lpw,ih]; rw [Nat.mul_succ,Int.pow_add,Int.mul_comm]; rfl
theorem lbyte_word {x r : Int} {k : Nat} (hk : k < 4) : (x + 4294967296 * r) / 256 ^ k % 256 = x / 256 ^ k % 256 := by
  match k,hk with
  | 0,_ => simp only [Int.pow_zero]; omega
  | 1,_ => simp only [Int.pow_succ,Int.pow_zero]; omega
  | 2,_ => simp only [Int.pow_succ,Int.pow_zero]; omega
  | 3,_ => simp only [Int.pow_succ,Int.pow_zero]; omega
theorem lpw_256 (n : Nat) : lpw n = 256 ^ (4 * n) := by
  induction n with
  | zero => rfl
  | succ n ih => simp only [lpw,ih]; rw [Nat.mul_succ,Int.pow_add,Int.mul_comm]; rfl
/-- A byte of a number is one of its word. -/
theorem lbyteAt_val {l : List Int} (hw : Limbs l) {len i : Nat} (hl : len ≤ l.length) (hi : i / 4 < len) : byteAt (lval (l.take len)) i = l.getD (i / 4) 0 / 256 ^ (i % 4) % 256 := by
  obtain ⟨m,rfl⟩ : ∃ m,len = i / 4 + 1 + m := ⟨len - (i / 4 + 1),by omega⟩
  have b := lseg_bd hw 0 (i / 4) (by omega)
  have hp := lpw_pos (i / 4)
  rw [← lseg_all,lseg_add (l := l) (o := 0) (k := i / 4 + 1) (m := m) (by omega),lseg_succ (by omega),Nat.zero_add]
  generalize lseg l 0 (i / 4) = lo at *
  generalize lseg l (0 + (i / 4 + 1)) m = r at *
  generalize l.getD (i / 4) 0 = x at *
  have e : lo + lpw (i / 4) * x + lpw (i / 4 + 1) * r = lo + lpw (i / 4) * (x + 4294967296 * r) := by
    simp only [lpw,Int.mul_add]
    rw [Int.mul_left_comm,Int.mul_assoc]
    omega
  have e2 : (256 : Int) ^ i = lpw (i / 4) * 256 ^ (i % 4) := by rw [lpw_256,← Int.pow_add]; congr 1; omega
  unfold byteAt
  rw [e,e2,← Int.ediv_ediv_of_nonneg (by omega),ediv_low hp b.1 b.2]
  exact lbyte_word (by omega)
theorem lpw_mono {a b : Nat} (h : a ≤ b) : lpw a ≤ lpw b := by
  obtain ⟨k,rfl⟩ : ∃ k,b = a + k := ⟨b - a,by omega⟩
  rw [lpw_add]
  have h1 := lpw_pos a
  have h2 := lpw_pos k
  have : lpw a * 1 ≤ lpw a * lpw k := Int.mul_le_mul_of_nonneg_left (by omega) (by omega)
  omega
/-- A number of len words whose last is not 0 is not below 2^64 to the len - 1. -/
theorem lval_low {l : List Int} {len : Nat} (hw : Limbs l) (hp : 1 ≤ len) (hl : len ≤ l.length) (h : l.getD (len - 1) 0 ≠ 0) : lpw (len - 1) ≤ lval (l.take len) := by
  obtain ⟨k,rfl⟩ : ∃ k,len = k + 1 := ⟨len - 1,by omega⟩
  rw [Nat.add_sub_cancel] at h ⊢
  rw [lval_take_succ (by omega)]
  have h1 := (lval_bd (hw.take k)).1
  have h2 := hw.getD k
  have h3 := lpw_pos k
  generalize l.getD k 0 = x at h h2
  have : lpw k * 1 ≤ lpw k * x := Int.mul_le_mul_of_nonneg_left (by unfold Limb at h2; omega) (by omega)
  omega
end Go.Proofs.YtgccgacpifebbaaGreatDoor
