/- Contract of the document's NatText: the digits of a number, no nought ahead. -/
import Derived.Test.YtjoppmkknbpjbaaDoorParse
import Derived.Test.YtjoppmkknbpjbaaDoorRefOne
import Derived.Deep.LoopGhost
import Derived.Lib.AppendIntMem
namespace Go.Proofs.YtjoppmkknbpjbaaDoor
open Go.RowKit
set_option linter.unusedVariables false

theorem dg_left {a b : ByteArray} {j : Nat} (h : j < a.size) : dg (a ++ b) j = dg a j := by
  unfold dg
  rw [dif_pos h, dif_pos (by rw [ByteArray.size_append]; omega), ByteArray.getElem_append_left h]
theorem dg_right {a b : ByteArray} (j : Nat) : dg (a ++ b) (a.size + j) = dg b j := by
  unfold dg
  by_cases h : j < b.size
  · rw [dif_pos h, dif_pos (by rw [ByteArray.size_append]; omega), ByteArray.getElem_append_right (by omega)]
    simp
  · rw [dif_neg h, dif_neg (by rw [ByteArray.size_append]; omega)]
theorem decTo_same {a b : ByteArray} : ∀ k : Nat, (∀ j, j < k → dg a j = dg b j) → decTo a k = decTo b k
  | 0, _ => rfl
  | k + 1, h => by
    simp only [decTo]
    rw [decTo_same k (fun j hj => h j (by omega)), h k (by omega)]
theorem decTo_app (a b : ByteArray) (j : Nat) : decTo (a ++ b) (a.size + j) = decTo a a.size * 10 ^ j + decTo b j := by
  have h1 := decTo_cut (s := a ++ b) (t := b) (m := a.size) j (fun i _ => (dg_right i).symm)
  rw [h1, decTo_same a.size (fun i hi => dg_left hi)]
/-- Digits all through. -/
def Digs (s : ByteArray) : Prop := ∀ j, j < s.size → Dig (dg s j)
theorem Digs.app {a b : ByteArray} (h : Digs a) (g : Digs b) : Digs (a ++ b) := by
  intro j hj
  rw [ByteArray.size_append] at hj
  by_cases c : j < a.size
  · rw [dg_left c]; exact h j c
  · obtain ⟨i, rfl⟩ : ∃ i, j = a.size + i := ⟨j - a.size, by omega⟩
    rw [dg_right]; exact g i (by omega)
/-- The text of n: digits, no nought ahead of others. -/
def IsText (s : ByteArray) (n : Int) : Prop := 1 ≤ s.size ∧ Digs s ∧ (s.size = 1 ∨ dg s 0 ≠ 0) ∧ decTo s s.size = n
theorem decTo_low {s : ByteArray} : ∀ {k : Nat}, (∀ j, j < k + 1 → Dig (dg s j)) → dg s 0 ≠ 0 → 10 ^ k ≤ decTo s (k + 1)
  | 0, h, h0 => by
    have := h 0 (by omega)
    unfold Dig at this
    simp only [decTo]
    omega
  | k + 1, h, h0 => by
    have h1 := decTo_low (s := s) (k := k) (fun j hj => h j (by omega)) h0
    have h2 := h (k + 1) (by omega)
    unfold Dig at h2
    rw [Int.pow_succ]
    simp only [decTo] at h1 ⊢
    omega
theorem ten_mono {a b : Nat} (h : a ≤ b) : (10 : Int) ^ a ≤ 10 ^ b := by
  have := Nat.pow_le_pow_right (show 0 < 10 by decide) h
  exact_mod_cast this
theorem digits_eq {a b : ByteArray} : ∀ {k : Nat}, (∀ j, j < k → Dig (dg a j)) → (∀ j, j < k → Dig (dg b j)) → decTo a k = decTo b k → ∀ j, j < k → dg a j = dg b j
  | 0, _, _, _, j, hj => by omega
  | k + 1, ha, hb, h, j, hj => by
    have a1 := ha k (by omega)
    have b1 := hb k (by omega)
    unfold Dig at a1 b1
    simp only [decTo] at h
    by_cases e : j = k
    · subst e; omega
    · exact digits_eq (k := k) (fun j hj => ha j (by omega)) (fun j hj => hb j (by omega)) (by omega) j (by omega)
theorem bytes_ext {a b : ByteArray} (h : a.size = b.size) (hd : ∀ j, j < a.size → dg a j = dg b j) : a = b := by
  refine ByteArray.ext_getElem h fun j h1 h2 => ?_
  have := hd j h1
  rw [dg_eq h1, dg_eq h2] at this
  exact UInt8.toNat_inj.1 (by omega)
/-- A number has one text. -/
theorem IsText.unique {a b : ByteArray} {n : Int} (h : IsText a n) (g : IsText b n) : a = b := by
  obtain ⟨a1, a2, a3, a4⟩ := h
  obtain ⟨b1, b2, b3, b4⟩ := g
  have key : ∀ {x y : ByteArray}, 1 ≤ x.size → 1 ≤ y.size → Digs x → Digs y → (y.size = 1 ∨ dg y 0 ≠ 0) → decTo x x.size = decTo y y.size → y.size ≤ x.size := by
    intro x y x1 y1 x2 y2 y3 e
    apply Nat.le_of_not_lt
    intro hc
    rcases y3 with y3 | y3
    · omega
    · obtain ⟨k, hk⟩ : ∃ k, y.size = k + 1 := ⟨y.size - 1, by omega⟩
      have h1 := decTo_low (s := y) (k := k) (fun j hj => y2 j (by omega)) y3
      have h2 := (decTo_ten (s := x) (k := x.size) x2).2
      have h3 := ten_mono (a := x.size) (b := k) (by omega)
      rw [← hk] at h1
      omega
  have e : a.size = b.size := Nat.le_antisymm (key b1 a1 b2 a2 a3 (by rw [a4, b4])) (key a1 b1 a2 b2 b3 (by rw [a4, b4]))
  refine bytes_ext e (digits_eq (k := a.size) a2 (fun j hj => b2 j (by omega)) ?_)
  rw [a4, e, b4]

/-- A group of nine digits, as far as it is told. -/
def GroupAt (vq r0 : Int) (d : ByteArray) (k : Nat) (rv : Int) : Prop := d.size = k ∧ Digs d ∧ rv * 10 ^ k + decTo d k = r0 ∧ 0 ≤ rv ∧ rv < 10 ^ (9 - k) ∧ (vq = 0 → rv = 0 → 1 ≤ k ∧ dg d 0 ≠ 0)
theorem GroupAt.step {vq r0 rv : Int} {d c : ByteArray} {k : Nat} (h : GroupAt vq r0 d k rv) (hk : k < 9) (hgo : 0 < rv ∨ vq ≠ 0) (hc : c.size = 1) (hd : dg c 0 = rv % 10) : GroupAt vq r0 (c ++ d) (k + 1) (rv / 10) := by
  obtain ⟨h1, h2, h3, h4, h5, h6⟩ := h
  have dc : Digs c := by
    intro j hj
    obtain rfl : j = 0 := by omega
    rw [hd]
    unfold Dig
    omega
  have h0 : dg (c ++ d) 0 = rv % 10 := by rw [dg_left (by omega), hd]
  refine ⟨by rw [ByteArray.size_append]; omega, dc.app h2, ?_, by omega, ?_, fun e1 e2 => ⟨by omega, by rw [h0]; omega⟩⟩
  · have e := decTo_app c d k
    rw [hc, show decTo c 1 = dg c 0 by simp [decTo], hd, Nat.add_comm] at e
    rw [e, Int.pow_succ, ← h3]
    have e2 : rv = rv / 10 * 10 + rv % 10 := by omega
    generalize (10 : Int) ^ k = P
    generalize decTo d k = D
    generalize rv / 10 = a at e2
    generalize rv % 10 = b at e2
    subst e2
    rw [Int.add_mul, Int.mul_assoc, Int.mul_comm 10 P, ← Int.mul_assoc]
    rw [Int.mul_assoc a P 10]
    omega
  · rw [show 9 - k = 9 - (k + 1) + 1 by omega, Int.pow_succ] at h5
    generalize (10 : Int) ^ (9 - (k + 1)) = P at h5
    omega
/-- NatText, as far as it is told. -/
def TextAt (n : Int) (G : Nat) (v : Int) (s : ByteArray) (g : Nat) : Prop := Digs s ∧ v * 10 ^ s.size + decTo s s.size = n ∧ 0 ≤ v ∧ v < 10 ^ (9 * g) ∧ s.size + 9 * g ≤ 9 * G ∧ (v = 0 → (s.size = 0 ∧ n = 0) ∨ (1 ≤ s.size ∧ dg s 0 ≠ 0))
theorem TextAt.step {n v rv : Int} {G g k : Nat} {s d : ByteArray} (h : TextAt n G v s (g + 1)) (hg : GroupAt (v / 1000000000) (v % 1000000000) d k rv) (hk : k ≤ 9) (hend : k = 9 ∨ (rv = 0 ∧ v / 1000000000 = 0)) : TextAt n G (v / 1000000000) (d ++ s) g := by
  obtain ⟨h1, h2, h3, h4, h5, h6⟩ := h
  obtain ⟨g1, g2, g3, g4, g5, g6⟩ := hg
  have r0 : rv = 0 := by
    rcases hend with rfl | ⟨e, _⟩
    · rw [Nat.sub_self, Int.pow_zero] at g5; omega
    · exact e
  rw [r0, Int.zero_mul, Int.zero_add] at g3
  have q0 : 0 ≤ v / 1000000000 := by omega
  refine ⟨g2.app h1, ?_, q0, ?_, by rw [ByteArray.size_append]; omega, fun e => .inr ?_⟩
  · rw [ByteArray.size_append, decTo_app, g1, g3, ← h2]
    have e2 : v = v / 1000000000 * 1000000000 + v % 1000000000 := by omega
    have e3 : v / 1000000000 * 10 ^ k = v / 1000000000 * 1000000000 := by
      rcases hend with rfl | ⟨_, e⟩
      · rfl
      · rw [e, Int.zero_mul, Int.zero_mul]
    rw [Int.pow_add, ← Int.mul_assoc, e3, ← Int.add_assoc, ← Int.add_mul, ← e2]
  · rw [show 9 * (g + 1) = 9 * g + 9 by omega, Int.pow_add] at h4
    have : v < 10 ^ (9 * g) * 1000000000 := h4
    generalize (10 : Int) ^ (9 * g) = P at this
    omega
  · obtain ⟨a1, a2⟩ := g6 e r0
    refine ⟨by rw [ByteArray.size_append]; omega, ?_⟩
    rw [dg_left (by omega)]
    exact a2
theorem lpw_ten : ∀ K : Nat, lpw K ≤ 10 ^ (9 * (2 * K))
  | 0 => by simp [lpw]
  | K + 1 => by
    have ih := lpw_ten K
    rw [show 9 * (2 * (K + 1)) = 9 * (2 * K) + 18 by omega, Int.pow_add]
    simp only [lpw]
    have : (10 : Int) ^ 18 = 1000000000000000000 := by decide
    rw [this]
    have := lpw_pos K
    generalize (10 : Int) ^ (9 * (2 * K)) = P at ih
    omega
theorem num_none {w : World} {p : Option Addr} {l c : Nat} (h : IsNum w (.slice p l c) 0) : l = 0 := by
  obtain ⟨L, h1, h2, h3⟩ := h
  obtain ⟨p', c', e⟩ := h1.shape
  simp only [Value.slice.injEq] at e
  have := num_len (K := 0) h1 h2 (by rw [h3]; decide)
  omega
theorem num_some {w : World} {p : Option Addr} {l c : Nat} {n : Int} (h : IsNum w (.slice p l c) n) (hn : n ≠ 0) : 0 < l := by
  obtain ⟨L, h1, h2, h3⟩ := h
  obtain ⟨p', c', e⟩ := h1.shape
  simp only [Value.slice.injEq] at e
  have : L ≠ [] := by
    rintro rfl
    exact hn (by rw [← h3]; rfl)
  have : L.length ≠ 0 := fun e => this (List.eq_nil_of_length_eq_zero e)
  omega
/-- What NatText answers. -/
def RetText (n : Int) (w : World) (e : Ending) (w' : World) : Prop := ∃ t, e = .returned (.string t) ∧ IsText t n ∧ Below w.heap.size w w'
end Go.Proofs.YtjoppmkknbpjbaaDoor
