/- Slices of bytes that are only read; octet's sum and its counts, plain. -/
import Derived.Test.YtgccgacpifebbaaNat0
namespace Go.Proofs.Ytgccgacpifebbaa
open Go.RowKit
set_option linter.unusedVariables false

/-- Bytes. -/
def Octs (l : List Int) : Prop := ∀ x ∈ l, 0 ≤ x ∧ x < 256
theorem Octs.take {l : List Int} (h : Octs l) (n : Nat) : Octs (l.take n) := fun x hx => h x (List.mem_of_mem_take hx)
theorem Octs.drop {l : List Int} (h : Octs l) (n : Nat) : Octs (l.drop n) := fun x hx => h x (List.mem_of_mem_drop hx)
theorem Octs.app {a b : List Int} (h : Octs a) (g : Octs b) : Octs (a ++ b) := fun x hx => (List.mem_append.1 hx).elim (h x) (g x)
theorem Octs.getD {l : List Int} (h : Octs l) (i : Nat) : 0 ≤ l.getD i 0 ∧ l.getD i 0 < 256 := by
  by_cases hi : i < l.length
  · rw [List.getD_eq_getElem?_getD, List.getElem?_eq_getElem hi]; exact h _ (List.getElem_mem hi)
  · rw [List.getD_eq_getElem?_getD, List.getElem?_eq_none (by omega)]; exact ⟨by decide, by decide⟩
/-- The slice v shows the bytes l. -/
def Bs (w : World) (v : Value) (l : List Int) : Prop := ∃ p c, v = .slice p l.length c ∧ l.length ≤ c ∧ l.length ≤ 9223372036854775807 ∧ Octs l ∧ (0 < l.length → ∃ g off, p = some ⟨g, off, none⟩ ∧ ∀ j, j < l.length → w.cell? ⟨g, off + j, none⟩ = some (.int .u8 (l.getD j 0)))
section
variable {w w' : World} {v : Value} {l : List Int}
theorem Bs.octs (h : Bs w v l) : Octs l := by obtain ⟨_, _, _, _, _, h, _⟩ := h; exact h
theorem Bs.below (h : Bs w v l) (hb : Below w.heap.size w w') : Bs w' v l := by
  obtain ⟨p, c, hv, h1, h2, h3, h4⟩ := h
  refine ⟨p, c, hv, h1, h2, h3, fun h0 => ?_⟩
  obtain ⟨g, off, hp, hc⟩ := h4 h0
  exact ⟨g, off, hp, fun j hj => (hb.cell (p := ⟨g, off + j, none⟩) (World.block_lt_of_cell? w ⟨g, off + j, none⟩ (hc j hj))).trans (hc j hj)⟩
theorem Bs.drew (h : Bs w v l) : Bs w.drew v l := h
theorem Bs.arr {g n c : Nat} {t : TypeId} {L : List Int} (ha : Arr w g t .u8 L) (hn : n ≤ L.length) (hc : n ≤ c) (hm : n ≤ 9223372036854775807) (ho : Octs (L.take n)) : Bs w (.slice (some ⟨g, 0, none⟩) n c) (L.take n) := by
  have e : (L.take n).length = n := by rw [List.length_take]; omega
  refine ⟨_, c, by rw [e], by omega, by omega, ho, fun _ => ⟨g, 0, rfl, fun j hj => ?_⟩⟩
  rw [Nat.zero_add, ha.cell j (by omega), List.getD_eq_getElem?_getD, List.getD_eq_getElem?_getD, List.getElem?_take_of_lt (by omega)]
end
theorem Bs.nil (w : World) : Bs w (.slice none 0 0) [] := ⟨none, 0, rfl, Nat.le_refl _, by decide, (fun _ h => by cases h), fun h => absurd h (Nat.lt_irrefl 0)⟩

/-- One step of the sum. -/
def fnv1 (h c : Int) : Int := IntKind.u64.wrap (bits .xor .u64 h c * 1099511628211)
def fnv (h : Int) (l : List Int) : Int := l.foldl fnv1 h
theorem fnv_snoc {h : Int} {l : List Int} {k : Nat} (hk : k < l.length) : fnv h (l.take (k + 1)) = fnv1 (fnv h (l.take k)) (l.getD k 0) := by
  unfold fnv
  rw [take_snoc l k 0 hk, List.foldl_append]
  rfl
theorem fnv1_bv (h c : Int) : fnv1 h c = (((BitVec.ofInt 64 h ^^^ BitVec.ofInt 64 c) * 1099511628211#64).toNat : Int) := by
  have e : bits .xor .u64 h c = ((BitVec.ofInt 64 h ^^^ BitVec.ofInt 64 c).toNat : Int) := by
    show IntKind.u64.wrap ((BitVec.ofInt 64 h ^^^ BitVec.ofInt 64 c).toNat : Int) = _
    rw [IntKind.wrap_u64]
    have := (BitVec.ofInt 64 h ^^^ BitVec.ofInt 64 c).isLt
    omega
  unfold fnv1
  rw [e, IntKind.wrap_u64, BitVec.toNat_mul]
  simp
theorem fnv1_word (h c : Int) : Word (fnv1 h c) := by
  rw [fnv1_bv]
  have := ((BitVec.ofInt 64 h ^^^ BitVec.ofInt 64 c) * 1099511628211#64).isLt
  exact ⟨by omega, by omega⟩
theorem fnv_word {h : Int} (hh : Word h) (l : List Int) : Word (fnv h l) := by
  induction l generalizing h with
  | nil => exact hh
  | cons c l ih => exact ih (fnv1_word h c)
theorem mul_back {a b : BitVec 64} (h : a * 1099511628211#64 = b * 1099511628211#64) : a = b := by
  have e : 1099511628211#64 * 14886173955864302971#64 = 1#64 := by decide
  have := congrArg (· * 14886173955864302971#64) h
  simpa [BitVec.mul_assoc, e] using this
theorem ofInt_inj {a b : Int} (ha : Word a) (hb : Word b) (h : BitVec.ofInt 64 a = BitVec.ofInt 64 b) : a = b := by
  have := congrArg BitVec.toNat h
  rw [BitVec.toNat_ofInt, BitVec.toNat_ofInt] at this
  unfold Word at ha hb
  omega
theorem fnv1_left {h g c : Int} (hh : Word h) (hg : Word g) (e : fnv1 h c = fnv1 g c) : h = g := by
  rw [fnv1_bv, fnv1_bv] at e
  have e1 := mul_back (BitVec.eq_of_toNat_eq (Int.ofNat_inj.1 e))
  refine ofInt_inj hh hg ?_
  have := congrArg (· ^^^ BitVec.ofInt 64 c) e1
  simpa [BitVec.xor_assoc] using this
theorem fnv1_right {h c d : Int} (hc : 0 ≤ c ∧ c < 256) (hd : 0 ≤ d ∧ d < 256) (e : fnv1 h c = fnv1 h d) : c = d := by
  rw [fnv1_bv, fnv1_bv] at e
  have e1 := mul_back (BitVec.eq_of_toNat_eq (Int.ofNat_inj.1 e))
  refine ofInt_inj ⟨hc.1, by omega⟩ ⟨hd.1, by omega⟩ ?_
  have := congrArg (BitVec.ofInt 64 h ^^^ ·) e1
  simpa [← BitVec.xor_assoc] using this
theorem fnv_left {h g : Int} (hh : Word h) (hg : Word g) : ∀ (l : List Int), fnv h l = fnv g l → h = g
  | [], e => e
  | c :: l, e => fnv1_left hh hg (fnv_left (fnv1_word h c) (fnv1_word g c) l e)
/-- One byte turned: another sum. -/
theorem fnv_turned {h x y : Int} (hh : Word h) {a b : List Int} (hx : 0 ≤ x ∧ x < 256) (hy : 0 ≤ y ∧ y < 256) (e : fnv h (a ++ x :: b) = fnv h (a ++ y :: b)) : x = y := by
  unfold fnv at e
  rw [List.foldl_append, List.foldl_append] at e
  exact fnv1_right hx hy (fnv_left (fnv1_word _ x) (fnv1_word _ y) b e)

/-- n in groups of seven bits, the lowest first. -/
def cnt (n : Nat) : List Int := if h : n < 128 then [(n : Int)] else ((n % 128 + 128 : Nat) : Int) :: cnt (n / 128)
termination_by n
decreasing_by omega
theorem cnt_small {n : Nat} (h : n < 128) : cnt n = [(n : Int)] := by rw [cnt, dif_pos h]
theorem cnt_great {n : Nat} (h : ¬ n < 128) : cnt n = ((n % 128 + 128 : Nat) : Int) :: cnt (n / 128) := by rw [cnt, dif_neg h]
theorem cnt_octs (n : Nat) : Octs (cnt n) := by
  induction n using Nat.strongRecOn with
  | _ n ih =>
    by_cases h : n < 128
    · rw [cnt_small h]
      intro x hx
      simp at hx
      omega
    · rw [cnt_great h]
      intro x hx
      rcases List.mem_cons.1 hx with rfl | hx
      · omega
      · exact ih _ (by omega) x hx
theorem cnt_len (n k : Nat) (h : n < 128 ^ (k + 1)) : (cnt n).length ≤ k + 1 := by
  induction k generalizing n with
  | zero => rw [cnt_small (by simpa using h)]; exact Nat.le_refl 1
  | succ k ih =>
    by_cases h1 : n < 128
    · rw [cnt_small h1]; simp
    · rw [cnt_great h1, List.length_cons]
      have := ih (n / 128) (by rw [Nat.pow_succ] at h; exact Nat.div_lt_of_lt_mul (by rw [Nat.mul_comm]; exact h))
      omega
theorem cnt_pos (n : Nat) : 0 < (cnt n).length := by
  by_cases h : n < 128
  · rw [cnt_small h]; exact Nat.one_pos
  · rw [cnt_great h]; simp
/-- A byte with the bit that says: one more follows. -/
theorem or_more (n : Nat) : bits .or .u8 (IntKind.u8.wrap (n : Int)) 128 = ((n % 128 + 128 : Nat) : Int) := by
  have h : ∀ x : Fin 256, bits .or .u8 (x.1 : Int) 128 = ((x.1 % 128 + 128 : Nat) : Int) := by decide +kernel
  have e : IntKind.u8.wrap (n : Int) = ((n % 256 : Nat) : Int) := by rw [IntKind.wrap_u8]; omega
  rw [e, h ⟨n % 256, by omega⟩]
  show ((n % 256 % 128 + 128 : Nat) : Int) = _
  omega
/-- The bytes of a word, the highest first. -/
def be8 (h : Int) : List Int := [h / 2 ^ 56 % 256, h / 2 ^ 48 % 256, h / 2 ^ 40 % 256, h / 2 ^ 32 % 256, h / 2 ^ 24 % 256, h / 2 ^ 16 % 256, h / 2 ^ 8 % 256, h % 256]
/-- The word of bytes, the highest first. -/
def deb (l : List Int) : Int := l.foldl (fun n c => n * 256 + c) 0
theorem deb_be8 {h : Int} (hh : Word h) : deb (be8 h) = h := by
  unfold Word at hh
  simp only [deb, be8, List.foldl_cons, List.foldl_nil]
  omega
theorem deb_inj : ∀ {a b : List Int} {n m : Int}, a.length = b.length → Octs a → Octs b → a.foldl (fun n c => n * 256 + c) n = b.foldl (fun n c => n * 256 + c) m → n = m ∧ a = b
  | [], [], n, m, _, _, _, e => ⟨e, rfl⟩
  | x :: a, y :: b, n, m, hl, ha, hb, e => by
    have hx := ha x (by simp)
    have hy := hb y (by simp)
    obtain ⟨h1, h2⟩ := deb_inj (a := a) (b := b) (n := n * 256 + x) (m := m * 256 + y) (by simpa using hl) (fun z hz => ha z (by simp [hz])) (fun z hz => hb z (by simp [hz])) e
    have e2 : x = y := by omega
    exact ⟨by omega, by rw [h2, e2]⟩
/-- The place of the first byte behind which no group follows (or how many bytes there are). -/
def low : List Int → Nat
  | [] => 0
  | c :: l => if c < 128 then 0 else low l + 1
theorem low_le : ∀ l, low l ≤ l.length
  | [] => Nat.le_refl _
  | c :: l => by
    have := low_le l
    simp only [low, List.length_cons]
    split <;> omega
theorem low_at : ∀ {l}, low l < l.length → l.getD (low l) 0 < 128
  | [], h => absurd h (Nat.lt_irrefl 0)
  | c :: l, h => by
    simp only [low, List.length_cons] at h ⊢
    by_cases hc : c < 128
    · rw [if_pos hc]; exact hc
    · rw [if_neg hc] at h ⊢
      exact low_at (by omega)
theorem low_ahead : ∀ {l : List Int} {j : Nat}, j < low l → 128 ≤ l.getD j 0
  | [], j, h => absurd h (Nat.not_lt_zero j)
  | c :: l, j, h => by
    simp only [low] at h
    by_cases hc : c < 128
    · rw [if_pos hc] at h; exact absurd h (Nat.not_lt_zero j)
    · rw [if_neg hc] at h
      rcases j with _ | j
      · show 128 ≤ c
        omega
      · exact low_ahead (l := l) (by omega)
/-- It is the only such place. -/
theorem low_eq {l : List Int} {k : Nat} (hk : k ≤ l.length) (h1 : ∀ j, j < k → 128 ≤ l.getD j 0) (h2 : k < l.length → l.getD k 0 < 128) : low l = k := by
  rcases Nat.lt_trichotomy (low l) k with h | h | h
  · have a := h1 _ h
    have b := low_at (l := l) (by omega)
    omega
  · exact h
  · have a := low_ahead h
    have b := low_le l
    have c := h2 (by omega)
    omega
/-- What groups of seven bits are worth, the lowest first. -/
def grp : List Int → Int
  | [] => 0
  | c :: l => c % 128 + 128 * grp l
theorem grp_snoc : ∀ (l : List Int) (c : Int), grp (l ++ [c]) = grp l + 128 ^ l.length * (c % 128)
  | [], c => by simp [grp]
  | x :: l, c => by
    simp only [List.cons_append, grp, grp_snoc l c, List.length_cons, Int.pow_succ]
    generalize (128 : Int) ^ l.length = P
    rw [Int.mul_add, ← Int.mul_assoc 128 P, Int.mul_comm 128 P]
    omega
theorem grp_bd : ∀ l : List Int, 0 ≤ grp l ∧ grp l < 128 ^ l.length
  | [] => by simp [grp]
  | c :: l => by
    have := grp_bd l
    simp only [grp, List.length_cons, Int.pow_succ]
    omega
theorem low_cnt (n : Nat) (r : List Int) : low (cnt n ++ r) = (cnt n).length - 1 := by
  induction n using Nat.strongRecOn with
  | _ n ih =>
    by_cases h : n < 128
    · rw [cnt_small h]
      simp only [List.cons_append, low]
      rw [if_pos (by omega)]
      rfl
    · have h1 := cnt_pos (n / 128)
      rw [cnt_great h]
      simp only [List.cons_append, low, List.length_cons]
      rw [if_neg (by omega), ih _ (by omega)]
      omega
theorem grp_cnt (n : Nat) : grp (cnt n) = n := by
  induction n using Nat.strongRecOn with
  | _ n ih =>
    by_cases h : n < 128
    · rw [cnt_small h]
      simp only [grp]
      omega
    · rw [cnt_great h]
      simp only [grp]
      rw [ih _ (by omega)]
      omega
theorem cnt_last (n : Nat) : (cnt n).length = 1 ∨ (cnt n).getD ((cnt n).length - 1) 0 ≠ 0 := by
  induction n using Nat.strongRecOn with
  | _ n ih =>
    by_cases h : n < 128
    · exact .inl (by rw [cnt_small h]; rfl)
    · refine .inr ?_
      have h1 := cnt_pos (n / 128)
      obtain ⟨k, hk⟩ : ∃ k, (cnt (n / 128)).length = k + 1 := ⟨_, (Nat.sub_add_cancel h1).symm⟩
      rw [cnt_great h, List.length_cons, hk, Nat.add_sub_cancel]
      show (cnt (n / 128)).getD k 0 ≠ 0
      rcases ih (n / 128) (by omega) with g | g
      · by_cases h2 : n / 128 < 128
        · rw [cnt_small h2] at hk ⊢
          simp at hk
          subst hk
          show ((n / 128 : Nat) : Int) ≠ 0
          omega
        · rw [cnt_great h2] at g
          have := cnt_pos (n / 128 / 128)
          simp at g
          rw [g] at this
          simp at this
      · rw [hk, Nat.add_sub_cancel] at g
        exact g
/-- A byte turned by another one than 0 is another byte. -/
theorem xor_turned {x y : Int} (hx : 0 ≤ x ∧ x < 256) (hy : 0 ≤ y ∧ y < 256) (h0 : y ≠ 0) : bits .xor .u8 x y ≠ x ∧ 0 ≤ bits .xor .u8 x y ∧ bits .xor .u8 x y < 256 := by
  have e : bits .xor .u8 x y = ((BitVec.ofInt 8 x ^^^ BitVec.ofInt 8 y).toNat : Int) := by
    show IntKind.u8.wrap ((BitVec.ofInt 8 x ^^^ BitVec.ofInt 8 y).toNat : Int) = _
    rw [IntKind.wrap_u8]
    have := (BitVec.ofInt 8 x ^^^ BitVec.ofInt 8 y).isLt
    omega
  have hlt := (BitVec.ofInt 8 x ^^^ BitVec.ofInt 8 y).isLt
  refine ⟨fun c => h0 ?_, by omega, by omega⟩
  rw [e] at c
  have ex : x = ((BitVec.ofInt 8 x).toNat : Int) := by rw [BitVec.toNat_ofInt]; omega
  have e1 : BitVec.ofInt 8 x ^^^ BitVec.ofInt 8 y = BitVec.ofInt 8 x := BitVec.eq_of_toNat_eq (by omega)
  have e2 := congrArg (BitVec.ofInt 8 x ^^^ ·) e1
  have e3 : BitVec.ofInt 8 y = 0#8 := by simpa [← BitVec.xor_assoc] using e2
  have e4 := congrArg BitVec.toNat e3
  rw [BitVec.toNat_ofInt] at e4
  simp at e4
  omega
/-- A record. -/
def recd (k : Int) (body : List Int) : List Int := k :: (cnt body.length ++ body)
def f0 : Int := 14695981039346656037
def sealed (k : Int) (body : List Int) : List Int := recd k body ++ be8 (fnv f0 (recd k body))
theorem f0_word : Word f0 := ⟨by decide, by decide⟩
theorem be8_octs {h : Int} (hh : Word h) : Octs (be8 h) := by
  intro x hx
  simp [be8] at hx
  rcases hx with rfl | rfl | rfl | rfl | rfl | rfl | rfl | rfl <;> omega
/-- One byte of the body, or of the sum, turned: the sum is another one. -/
theorem sealed_turned {s : List Int} {i : Nat} {y : Int} (hs : Octs s) (hi : i < s.length + 8) (hy : 0 ≤ y ∧ y < 256) (hne : y ≠ (s ++ be8 (fnv f0 s)).getD i 0) :
    deb (((s ++ be8 (fnv f0 s)).set i y).drop s.length) ≠ fnv f0 (((s ++ be8 (fnv f0 s)).set i y).take s.length) := by
  have hw := fnv_word f0_word s
  by_cases h : i < s.length
  · rw [List.set_append_left _ _ h, List.drop_left' (by rw [List.length_set]), List.take_left' (by rw [List.length_set]), deb_be8 hw]
    intro e
    rw [List.getD_eq_getElem?_getD, List.getElem?_append_left h, ← List.getD_eq_getElem?_getD] at hne
    have e1 : s = s.take i ++ s.getD i 0 :: s.drop (i + 1) := by
      rw [← drop_cons s i h, List.take_append_drop]
    have e2 : s.set i y = s.take i ++ y :: s.drop (i + 1) := by
      rw [List.set_eq_take_append_cons_drop, if_pos h]
    rw [e2] at e
    have e3 : fnv f0 (s.take i ++ s.getD i 0 :: s.drop (i + 1)) = fnv f0 (s.take i ++ y :: s.drop (i + 1)) := by rw [← e1]; exact e
    exact hne (fnv_turned f0_word (hs.getD i) hy e3).symm
  · rw [List.set_append_right _ _ (by omega), List.drop_left, List.take_left]
    intro e
    have e' : deb ((be8 (fnv f0 s)).set (i - s.length) y) = deb (be8 (fnv f0 s)) := by rw [deb_be8 hw]; exact e
    have hlen : (be8 (fnv f0 s)).length = 8 := rfl
    have ho : Octs ((be8 (fnv f0 s)).set (i - s.length) y) := by
      intro x hx
      rcases List.mem_or_eq_of_mem_set hx with hx | rfl
      · exact be8_octs hw x hx
      · exact hy
    have e1 := (deb_inj (by rw [List.length_set]) ho (be8_octs hw) e').2
    rw [List.getD_eq_getElem?_getD, List.getElem?_append_right (by omega), ← e1, List.getElem?_set_self (by omega)] at hne
    exact hne rfl
end Go.Proofs.Ytgccgacpifebbaa
