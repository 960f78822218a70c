/- RowKit Arr -/
import Derived.Test.YtgccgacpifebbaaGreatDoorTie
import Derived.Test.YtgccgacpifebbaaGreatDoorCards
import Derived.ProofKit
import Derived.OpenShut
import Derived.LaidMore
import Derived.Lay
import Derived.SevenTiedAt
import Derived.Stop.Joined
import Derived.ShutString
import Derived.ChangeOld
import Derived.Below
import Derived.WalkKit
import Derived.WalkSpells
import Derived.WalkLawsBesides
import Derived.Handy
import Derived.Lib.ItoaNum
import Derived.Lib.BitFns
namespace Go.Proofs.YtgccgacpifebbaaGreatDoor
open Go.ChangeShapes Go.WideShapes Go.ChangeAt Go.RowKit
theorem own : ownKnob Tryz.prog.godebug = none := by kernel_rfl
theorem laidOut : laidOutB Tryz.prog = true := by kernel_rfl
end Go.Proofs.YtgccgacpifebbaaGreatDoor
namespace Go.Proofs.YtgccgacpifebbaaGreatDoor
open Go.RowKit
set_option linter.unusedVariables false
def Word (x : Int) : Prop := 0 ≤ x ∧ x < 18446744073709551616
def Words (l : List Int) : Prop := ∀ x ∈ l,Word x
/-- What words are worth,the lowest first. -/
def val : List Int → Int
  | [] => 0
  | x :: l => x + 18446744073709551616 * val l
/-- 2^64 to the n. -/
def pw : Nat → Int
  | 0 => 1
  | n + 1 => 18446744073709551616 * pw n
theorem pw_pos : ∀ n,0 < pw n
  | 0 => by decide
  | n + 1 => by have := pw_pos n; unfold pw; omega
theorem pw_add (m n : Nat) : pw (m + n) = pw m * pw n := by
  induction m with
  | zero => simp [pw]
  | succ m ih => rw [Nat.add_right_comm]; simp only [pw,ih,Int.mul_assoc]
theorem val_append (a b : List Int) : val (a ++ b) = val a + pw a.length * val b := by
  induction a with
  | nil => simp [val,pw]
  | cons x l ih => simp only [List.cons_append,val,ih,List.length_cons,pw,Int.mul_add,Int.mul_assoc]; omega
theorem Words.nil : Words [] := fun _ h => by cases h
theorem Words.cons {x : Int} {l : List Int} (hx : Word x) (h : Words l) : Words (x :: l) := by
  intro y hy
  rcases List.mem_cons.1 hy with rfl | hy
  · exact hx
  · exact h y hy
theorem Words.append {a b : List Int} (ha : Words a) (hb : Words b) : Words (a ++ b) := by
  intro y hy
  rcases List.mem_append.1 hy with hy | hy
  · exact ha y hy
  · exact hb y hy
theorem Words.take {l : List Int} (h : Words l) (n : Nat) : Words (l.take n) := fun y hy => h y (List.mem_of_mem_take hy)
theorem Words.drop {l : List Int} (h : Words l) (n : Nat) : Words (l.drop n) := fun y hy => h y (List.mem_of_mem_drop hy)
theorem Words.getD {l : List Int} (h : Words l) (i : Nat) : Word (l.getD i 0) := by
  by_cases hi : i < l.length
  · rw [List.getD_eq_getElem?_getD,List.getElem?_eq_getElem hi]; exact h _ (List.getElem_mem hi)
  · rw [List.getD_eq_getElem?_getD,List.getElem?_eq_none (by omega)]; exact ⟨by decide,by decide⟩
theorem Words.set {l : List Int} (h : Words l) (i : Nat) {x : Int} (hx : Word x) : Words (l.set i x) := by
  intro y hy
  rcases List.mem_or_eq_of_mem_set hy with hy | rfl
  · exact h y hy
  · exact hx
theorem Words.replicate (n : Nat) : Words (List.replicate n 0) := by
  intro y hy
  rw [List.eq_of_mem_replicate hy]; exact ⟨by decide,by decide⟩
theorem val_replicate (n : Nat) : val (List.replicate n 0) = 0 := by
  induction n with
  | zero => rfl
  | succ n ih => simp [List.replicate_succ,val,ih]
theorem val_bd {l : List Int} (h : Words l) : 0 ≤ val l ∧ val l < pw l.length := by
  induction l with
  | nil => simp [val,pw]
  | cons x l ih =>
    have hx := h x (by simp)
    have := ih (fun y hy => h y (by simp [hy]))
    unfold Word at hx
    simp only [val,List.length_cons,pw]
    omega
theorem take_snoc {α : Type} [Inhabited α] (l : List α) (k : Nat) (d : α) (h : k < l.length) : l.take (k + 1) = l.take k ++ [l.getD k d] := by
  rw [List.take_succ_eq_append_getElem h,List.getD_eq_getElem?_getD,List.getElem?_eq_getElem h]; rfl
theorem val_take_succ {l : List Int} {k : Nat} (h : k < l.length) : val (l.take (k + 1)) = val (l.take k) + pw k * l.getD k 0 := by
  rw [take_snoc l k 0 h,val_append]
  simp only [List.length_take,val,Int.mul_zero,Int.add_zero,Nat.min_eq_left (Nat.le_of_lt h)]
/-- Block b holds these integers of kind k,and nothing of it is frozen. -/
def Arr (w : World) (b : Nat) (t : TypeId) (k : IntKind) (l : List Int) : Prop := w.heap[b]? = some (.cells (l.map (Value.int k)).toArray t (0,0))
section
variable {w : World} {b : Nat} {t : TypeId} {k : IntKind} {l : List Int}
theorem Arr.lt (h : Arr w b t k l) : b < w.heap.size := (Array.getElem?_eq_some_iff.1 h).1
theorem Arr.cell (h : Arr w b t k l) (i : Nat) (hi : i < l.length) : w.cell? ⟨b,i,none⟩ = some (.int k (l.getD i 0)) := by
  rw [cell_of_row w b i _ t (0,0) h]
  simp [hi,List.getD_eq_getElem?_getD]
theorem Arr.free (h : Arr w b t k l) (i : Nat) : w.frozen? ⟨b,i,none⟩ = false := frozen_of_row w b i _ t h
theorem Arr.set (h : Arr w b t k l) (i : Nat) (x : Int) : Arr (w.setCell ⟨b,i,none⟩ (.int k x)) b t k (l.set i x) := by
  unfold Arr
  rw [heap_setCell_same w b i _ t _ h]
  simp [List.map_set]
theorem Arr.other (h : Arr w b t k l) {a : Addr} (ha : b ≠ a.block) (v : Value) : Arr (w.setCell a v) b t k l := by
  unfold Arr
  rw [heap_setCell_other w a b v ha]
  exact h
theorem Arr.alloc (h : Arr w b t k l) (o : Obj) : Arr (w.alloc o) b t k l := by
  unfold Arr
  rw [heap_alloc_old w o h.lt]
  exact h
theorem Arr.drew (h : Arr w b t k l) : Arr w.drew b t k l := h
theorem Arr.drewN (h : Arr w b t k l) (n : Nat) : Arr (w.drewN n) b t k l := h
theorem Arr.below {B : Nat} {w' : World} (h : Arr w b t k l) (hb : Below B w w') (hB : b < B) : Arr w' b t k l := (hb.block b hB).trans h
theorem Arr.grown {row : Option Nat} {w' : World} (h : Arr w b t k l) (hg : w.grownBy w' row) (hr : some b ≠ row) : Arr w' b t k l := (hg.block b h.lt hr).trans h
end
theorem Arr.new (w : World) (t : TypeId) (k : IntKind) (l : List Int) (b : Nat) (hb : b = w.heap.size) : Arr (w.alloc (.cells (l.map (Value.int k)).toArray t)) b t k l := by
  subst hb; exact heap_alloc_new w _
theorem grownBy_refl (w : World) (row : Option Nat) : w.grownBy w row := ⟨rfl,rfl,rfl,Nat.le_refl _,fun _ _ _ => rfl⟩
theorem grownBy_trans {a b c : World} {row : Option Nat} (h : a.grownBy b row) (g : b.grownBy c row) : a.grownBy c row :=
  ⟨g.os.trans h.os,g.tape.trans h.tape,g.output.trans h.output,Nat.le_trans h.size g.size,fun k hk hr => (g.block k (Nat.lt_of_lt_of_le hk h.size) hr).trans (h.block k hk hr)⟩
theorem grownBy_set (w : World) (b i : Nat) (v : Value) : w.grownBy (w.setCell ⟨b,i,none⟩ v) (some b) :=
  ⟨rfl,rfl,rfl,by simp [World.setCell],fun k _ hk => heap_setCell_other w _ k v (fun e => hk (by simp [e]))⟩
theorem grownBy_below {w w' : World} {B : Nat} (h : Below B w w') (hB : w.heap.size ≤ B) (row : Option Nat) : w.grownBy w' row :=
  ⟨h.os,h.tape,h.output,h.size,fun k hk _ => h.block k (by omega)⟩
theorem Below.ofGrown {B b : Nat} {a w w' : World} (h : Below B a w) (hg : w.grownBy w' (some b)) (hB : B ≤ w.heap.size) (hb : B ≤ b) : Below B a w' :=
  h.grown hg hB (fun k hk => by cases hk; exact hb)
theorem grownBy_drew (w : World) (row : Option Nat) : w.grownBy w.drew row := ⟨rfl,rfl,rfl,Nat.le_refl _,fun _ _ _ => rfl⟩
/-- What k words from place o on are worth. -/
def seg (l : List Int) (o k : Nat) : Int := val ((l.drop o).take k)
theorem seg_zero (l : List Int) (o : Nat) : seg l o 0 = 0 := by simp [seg,val]
theorem getD_drop (l : List Int) (o k : Nat) : (l.drop o).getD k 0 = l.getD (o + k) 0 := by simp [List.getD_eq_getElem?_getD]
theorem seg_succ {l : List Int} {o k : Nat} (h : o + k < l.length) : seg l o (k + 1) = seg l o k + pw k * l.getD (o + k) 0 := by
  unfold seg
  rw [val_take_succ (by rw [List.length_drop]; omega),getD_drop]
theorem getD_set (l : List Int) (i j : Nat) (x : Int) (hi : i < l.length) : (l.set i x).getD j 0 = if j = i then x else l.getD j 0 := by
  simp only [List.getD_eq_getElem?_getD,List.getElem?_set]
  by_cases h : i = j
  · subst h; simp [hi]
  · rw [if_neg h,if_neg (fun e => h e.symm)]
theorem seg_congr {l l' : List Int} {o : Nat} : ∀ {k : Nat},o + k ≤ l.length → o + k ≤ l'.length → (∀ j,o ≤ j → j < o + k → l.getD j 0 = l'.getD j 0) → seg l o k = seg l' o k
  | 0,_,_,_ => by rw [seg_zero,seg_zero]
  | k + 1,h,h',he => by
    rw [seg_succ (by omega),seg_succ (by omega),seg_congr (by omega) (by omega) (fun j h1 h2 => he j h1 (by omega)),he (o + k) (by omega) (by omega)]
theorem seg_bd {l : List Int} (h : Words l) (o k : Nat) (hk : o + k ≤ l.length) : 0 ≤ seg l o k ∧ seg l o k < pw k := by
  have := val_bd ((h.drop o).take k)
  rw [List.length_take,List.length_drop,Nat.min_eq_left (by omega)] at this
  exact this
theorem seg_all (l : List Int) (k : Nat) : seg l 0 k = val (l.take k) := by simp [seg]
theorem seg_add {l : List Int} {o k m : Nat} (h : o + k + m ≤ l.length) : seg l o (k + m) = seg l o k + pw k * seg l (o + k) m := by
  induction m with
  | zero => rw [Nat.add_zero,seg_zero]; omega
  | succ m ih =>
    rw [← Nat.add_assoc,seg_succ (by omega),ih (by omega),seg_succ (by omega),pw_add,Int.mul_add,Int.mul_assoc,Nat.add_assoc]
    omega
/-- The value v is the number n in world w. -/
def IsNat (w : World) (v : Value) (n : Int) : Prop :=
  (Word n ∧ v = .agg #[.int .u64 n,.slice none 0 0]) ∨
  ∃ b t len cap l,v = .agg #[.int .u64 0,.slice (some ⟨b,0,none⟩) len cap] ∧ Arr w b t .u64 l ∧ 2 ≤ len ∧ len ≤ cap ∧ cap ≤ l.length ∧ len ≤ 140737488355328 ∧ Words l ∧ l.getD (len - 1) 0 ≠ 0 ∧ n = val (l.take len)
theorem IsNat.below {w w' : World} {v : Value} {n : Int} (h : IsNat w v n) (hb : Below w.heap.size w w') : IsNat w' v n := by
  rcases h with h | ⟨b,t,len,cap,l,hv,ha,r⟩
  · exact .inl h
  · exact .inr ⟨b,t,len,cap,l,hv,ha.below hb ha.lt,r⟩
theorem IsNat.word {w : World} {n : Int} (h : Word n) : IsNat w (.agg #[.int .u64 n,.slice none 0 0]) n := .inl ⟨h,rfl⟩
theorem IsNat.nonneg {w : World} {v : Value} {n : Int} (h : IsNat w v n) : 0 ≤ n := by
  rcases h with h | ⟨b,t,len,cap,l,hv,ha,_,_,_,_,hw,_,rfl⟩
  · exact h.1.1
  · exact (val_bd (hw.take _)).1
/-- A call answers the number n,and turns nothing that was there. -/
def RetNat (n : Int) (w : World) (e : Ending) (w' : World) : Prop := ∃ v,e = .returned v ∧ IsNat w' v n ∧ Below w.heap.size w w'
theorem bcell {W w1 : World} (hb : Below W.heap.size W w1) : (∀ b o,b < W.heap.size → w1.cell? ⟨b,o,none⟩ = W.cell? ⟨b,o,none⟩) ∧ (∀ b o,b < W.heap.size → w1.frozen? ⟨b,o,none⟩ = W.frozen? ⟨b,o,none⟩) :=
  ⟨fun b o h => hb.cell (p := ⟨b,o,none⟩) h,fun b o h => hb.frozen (p := ⟨b,o,none⟩) h⟩
theorem IsNat.shape {w : World} {v : Value} {n : Int} (h : IsNat w v n) : ∃ a p l c,v = .agg #[.int .u64 a,.slice p l c] := by
  rcases h with h | ⟨b,t,len,cap,l,hv,_⟩
  · exact ⟨_,_,_,_,h.2⟩
  · exact ⟨_,_,_,_,hv⟩
theorem Arr.ne_slice {w : World} {b c i : Nat} {t : TypeId} {k : IntKind} {l : List Int} {p : Option Addr} {m n : Nat} (h : Arr w b t k l) (hc : w.cell? ⟨c,i,none⟩ = some (.slice p m n)) : b ≠ c := by
  rintro rfl
  rw [cell_of_row w b i _ t (0,0) h] at hc
  simp at hc
/-- A number stays what it is while a struct's two cells are written elsewhere. -/
theorem IsNat.stored {w : World} {v : Value} {n : Int} {c : Nat} {p : Option Addr} {m q : Nat} (h : IsNat w v n) (hc : w.cell? ⟨c,1,none⟩ = some (.slice p m q)) (x y : Value) :
    IsNat ((w.setCell ⟨c,0,none⟩ x).setCell ⟨c,1,none⟩ y) v n := by
  rcases h with h | ⟨b,t,len,cap,l,hv,ha,r⟩
  · exact .inl h
  · exact .inr ⟨b,t,len,cap,l,hv,(ha.other (ha.ne_slice hc) _).other (ha.ne_slice hc) _,r⟩
theorem RetNat.stored {w W w' : World} {v : Value} {n : Int} {c : Nat} {p : Option Addr} {m q : Nat} (h0 : Below w.heap.size w W) (hb : Below W.heap.size W w') (hv : IsNat w' v n) (hc : w'.cell? ⟨c,1,none⟩ = some (.slice p m q)) (hcw : w.heap.size ≤ c) (x y : Value) :
    RetNat n w (.returned v) ((w'.setCell ⟨c,0,none⟩ x).setCell ⟨c,1,none⟩ y) :=
  ⟨v,rfl,hv.stored hc x y,((h0.trans (hb.mono h0.size)).setCell hcw _).setCell hcw _⟩
end Go.Proofs.YtgccgacpifebbaaGreatDoor
namespace Go.Proofs.YtgccgacpifebbaaGreatDoor
open Go.RowKit
set_option linter.unusedVariables false
/-- k is how many bits n has. -/
def IsBits (n : Int) (k : Nat) : Prop := n < 2 ^ k ∧ (k ≠ 0 → 2 ^ (k - 1) ≤ n)
theorem two_pow_mono {a b : Nat} (h : a ≤ b) : (2 : Int) ^ a ≤ 2 ^ b := by
  have := Nat.pow_le_pow_right (n := 2) (by decide) h
  have e : ∀ k : Nat,(2 : Int) ^ k = ((2 ^ k : Nat) : Int) := fun k => by simp
  rw [e,e]; omega
theorem isBits_zero : IsBits 0 0 := ⟨by decide,fun h => absurd rfl h⟩
theorem isBits_word {x : Int} (h : Word x) : IsBits x (Lib.bitLen x.toNat) := by
  obtain ⟨h0,h1⟩ := h
  obtain ⟨X,rfl⟩ := Int.eq_ofNat_of_zero_le h0
  rw [Int.toNat_natCast]
  have e : ∀ k : Nat,(2 : Int) ^ k = ((2 ^ k : Nat) : Int) := fun k => by simp
  by_cases hX : X = 0
  · subst hX
    have : Lib.bitLen 0 = 0 := Lib.bitLenAux_zero 64
    simp only [Int.ofNat_zero,this]
    exact isBits_zero
  · have hb := Lib.bitLenAux_bounds 64 X (by omega) hX
    unfold IsBits Lib.bitLen
    rw [e,e]
    generalize Lib.bitLenAux 64 X = k at hb
    obtain ⟨b1,b2,b3⟩ := hb
    exact ⟨by omega,fun _ => by omega⟩
/-- A number of a lower part and a highest digit. -/
theorem isBits_top {lo x P : Int} {s k : Nat} (hP : P = 2 ^ s) (h0 : 0 ≤ lo) (hlo : lo < P) (hx : x ≠ 0) (h : IsBits x k) (hx0 : 0 ≤ x) : IsBits (lo + P * x) (s + k) := by
  have hPpos : 0 < P := by omega
  have hk : k ≠ 0 := by
    rintro rfl
    have := h.1
    simp at this
    omega
  obtain ⟨j,rfl⟩ : ∃ j,k = j + 1 := ⟨k - 1,by omega⟩
  have h1 := h.1
  have h2 := h.2 hk
  rw [Nat.add_sub_cancel] at h2
  subst hP
  constructor
  · have : (2 : Int) ^ s * (x + 1) ≤ 2 ^ s * 2 ^ (j + 1) := Int.mul_le_mul_of_nonneg_left (by omega) (by omega)
    rw [Int.pow_add,]
    rw [Int.mul_add,Int.mul_one] at this
    omega
  · intro _
    have : (2 : Int) ^ s * 2 ^ j ≤ 2 ^ s * x := Int.mul_le_mul_of_nonneg_left h2 (by omega)
    have e : s + (j + 1) - 1 = s + j := by omega
    rw [e,Int.pow_add]
    omega
theorem pw_two (n : Nat) : pw n = 2 ^ (64 * n) := by
  induction n with
  | zero => rfl
  | succ n ih => simp only [pw,ih]; rw [Nat.mul_succ,Int.pow_add,Int.mul_comm]; rfl
/-- The i-th byte of n,the lowest first. -/
def byteAt (n : Int) (i : Nat) : Int := n / 256 ^ i % 256
/-- The bytes of n,the highest first. -/
def be (n : Int) (m : Nat) : List Int := (List.range m).map fun i => byteAt n (m - 1 - i)
theorem be_length (n : Int) (m : Nat) : (be n m).length = m := by simp [be]
theorem be_getD (n : Int) (m j : Nat) (h : j < m) : (be n m).getD j 0 = byteAt n (m - 1 - j) := by
  simp [be,List.getD_eq_getElem?_getD,h]
theorem eq_be {l : List Int} {n : Int} {m : Nat} (hl : l.length = m) (h : ∀ j,j < m → l.getD j 0 = byteAt n (m - 1 - j)) : l = be n m := by
  apply List.ext_getElem
  · rw [be_length,hl]
  · intro i h1 h2
    have := h i (by omega)
    rw [← be_getD n m i (by omega)] at this
    simpa [List.getD_eq_getElem?_getD,h1,h2] using this
theorem byteAt_bd (n : Int) (i : Nat) : 0 ≤ byteAt n i ∧ byteAt n i < 256 := by unfold byteAt; omega
theorem ediv_low {lo P y : Int} (hP : 0 < P) (h0 : 0 ≤ lo) (h : lo < P) : (lo + P * y) / P = y := by
  rw [Int.add_mul_ediv_left _ _ (by omega),Int.ediv_eq_zero_of_lt h0 h,Int.zero_add]
theorem byte_word {x r : Int} {k : Nat} (hk : k < 8) : (x + 18446744073709551616 * r) / 256 ^ k % 256 = x / 256 ^ k % 256 := by
  match k,hk with
  | 0,_ => simp only [Int.pow_zero]; omega
  | 1,_ => simp only [Int.pow_succ,Int.pow_zero]; omega
  | 2,_ => simp only [Int.pow_succ,Int.pow_zero]; omega
  | 3,_ => simp only [Int.pow_succ,Int.pow_zero]; omega
  | 4,_ => simp only [Int.pow_succ,Int.pow_zero]; omega
  | 5,_ => simp only [Int.pow_succ,Int.pow_zero]; omega
  | 6,_ => simp only [Int.pow_succ,Int.pow_zero]; omega
  | 7,_ => simp only [Int.pow_succ,Int.pow_zero]; omega
theorem pw_256 (n : Nat) : pw n = 256 ^ (8 * n) := by
  induction n with
  | zero => rfl
  | succ n ih => simp only [pw,ih]; rw [Nat.mul_succ,Int.pow_add,Int.mul_comm]; rfl
/-- A byte of a number is one of its word. -/
theorem byteAt_val {l : List Int} (hw : Words l) {len i : Nat} (hl : len ≤ l.length) (hi : i / 8 < len) : byteAt (val (l.take len)) i = l.getD (i / 8) 0 / 256 ^ (i % 8) % 256 := by
  obtain ⟨m,rfl⟩ : ∃ m,len = i / 8 + 1 + m := ⟨len - (i / 8 + 1),by omega⟩
  have b := seg_bd hw 0 (i / 8) (by omega)
  have hp := pw_pos (i / 8)
  rw [← seg_all,seg_add (l := l) (o := 0) (k := i / 8 + 1) (m := m) (by omega),seg_succ (by omega),Nat.zero_add]
  generalize seg l 0 (i / 8) = lo at *
  generalize seg l (0 + (i / 8 + 1)) m = r at *
  generalize l.getD (i / 8) 0 = x at *
  have e : lo + pw (i / 8) * x + pw (i / 8 + 1) * r = lo + pw (i / 8) * (x + 18446744073709551616 * r) := by
    simp only [pw,Int.mul_add]
    rw [Int.mul_left_comm,Int.mul_assoc]
    omega
  have e2 : (256 : Int) ^ i = pw (i / 8) * 256 ^ (i % 8) := by rw [pw_256,← Int.pow_add]; congr 1; omega
  unfold byteAt
  rw [e,e2,← Int.ediv_ediv_of_nonneg (by omega),ediv_low hp b.1 b.2]
  exact byte_word (by omega)
end Go.Proofs.YtgccgacpifebbaaGreatDoor
