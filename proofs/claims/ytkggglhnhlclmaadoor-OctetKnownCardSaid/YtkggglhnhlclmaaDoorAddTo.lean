/- Contract of nat.addTo: words added to others in place. Contract of nat.subFrom: words taken from others in place, of which they are not more. -/
import Derived.Test.YtkggglhnhlclmaaDoorNat0
import Derived.LoopTactic
import Derived.Shelf.Spec.BitsCarry
namespace Go.Proofs.YtkggglhnhlclmaaDoor
open Go.RowKit
set_option linter.unusedVariables false

def addLo (x y c : Int) : Int := (x + y + c) % 18446744073709551616
def addHi (x y c : Int) : Int := (x + y + c) / 18446744073709551616
theorem add_eq (x y c : Int) : addLo x y c + 18446744073709551616 * addHi x y c = x + y + c := by unfold addLo addHi; omega
theorem addLo_word (x y c : Int) : Word (addLo x y c) := by unfold addLo Word; omega
theorem addHi_bit {x y c : Int} (hx : Word x) (hy : Word y) (hc : c = 0 ∨ c = 1) : addHi x y c = 0 ∨ addHi x y c = 1 := by unfold addHi; unfold Word at hx hy; omega

theorem lin_add {P lo hi B z x c s t X : Int} (he : lo + B * hi = z + x + c) (hv : s + c * P = t + X) : s + P * lo + hi * (B * P) = t + P * z + (X + P * x) := by
  have h2 : P * lo + P * (B * hi) = P * z + P * x + P * c := by rw [← Int.mul_add, he, Int.mul_add, Int.mul_add]
  have h3 : hi * (B * P) = P * (B * hi) := by rw [← Int.mul_assoc, Int.mul_comm (hi * B) P, Int.mul_comm hi B]
  have h4 : c * P = P * c := Int.mul_comm _ _
  rw [h3]; omega
/-- What has become of row lz behind k rounds of adding, the carry c. -/
def AddAt (w wr : World) (zb : Nat) (tz : TypeId) (lz : List Int) (zo k : Nat) (X c : Int) : Prop :=
  (c = 0 ∨ c = 1) ∧ ∃ lk, Arr wr zb tz .u64 lk ∧ lk.length = lz.length ∧ Words lk ∧ (∀ j, j < zo ∨ zo + k ≤ j → lk.getD j 0 = lz.getD j 0) ∧ seg lk zo k + c * pw k = seg lz zo k + X ∧ w.grownBy wr (some zb)

theorem AddAt.step {w wr : World} {zb : Nat} {tz : TypeId} {lz : List Int} {zo k : Nat} {X c : Int} (h : AddAt w wr zb tz lz zo k X c) (hk : zo + k < lz.length) (hz : Words lz) {x : Int} (hx : Word x) :
    AddAt w (wr.setCell ⟨zb, zo + k, none⟩ (.int .u64 (addLo (lz.getD (zo + k) 0) x c))) zb tz lz zo (k + 1) (X + pw k * x) (addHi (lz.getD (zo + k) 0) x c) := by
  obtain ⟨hc, lk, ha, hlen, hw, hrest, hval, hg⟩ := h
  refine ⟨addHi_bit (hz.getD _) hx hc, _, ha.set _ _, by simp [hlen], hw.set _ (addLo_word _ _ _), ?_, ?_, grownBy_trans hg (grownBy_set _ _ _ _)⟩
  · intro j hj
    rw [getD_set _ _ _ _ (by omega), if_neg (by omega)]
    exact hrest j (by omega)
  · rw [seg_succ (by simp; omega), seg_succ hk, getD_set _ _ _ _ (by omega), if_pos rfl,
      seg_congr (l := lk.set (zo + k) _) (l' := lk) (by simp; omega) (by omega) (fun j h1 h2 => by rw [getD_set _ _ _ _ (by omega), if_neg (by omega)])]
    exact lin_add (add_eq _ _ _) hval

theorem AddAt.rest {w wr : World} {zb : Nat} {tz : TypeId} {lz : List Int} {zo k zl : Nat} {X : Int} (h : AddAt w wr zb tz lz zo k X 0) (hk : k ≤ zl) (hl : zo + zl ≤ lz.length) : AddAt w wr zb tz lz zo zl X 0 := by
  obtain ⟨hc, lk, ha, hlen, hw, hrest, hval, hg⟩ := h
  obtain ⟨m, rfl⟩ : ∃ m, zl = k + m := ⟨zl - k, by omega⟩
  refine ⟨.inl rfl, lk, ha, hlen, hw, fun j hj => hrest j (by omega), ?_, hg⟩
  rw [seg_add (by omega), seg_add (by omega), seg_congr (l := lk) (l' := lz) (o := zo + k) (by omega) (by omega) (fun j h1 _ => hrest j (by omega))]
  omega

end Go.Proofs.YtkggglhnhlclmaaDoor

namespace Go.Proofs.YtkggglhnhlclmaaDoor
open Go.RowKit
set_option linter.unusedVariables false

def subLo (x y c : Int) : Int := (x - y - c) % 18446744073709551616
def subHi (x y c : Int) : Int := if x < y + c then 1 else 0
theorem sub_eq (x y c : Int) (hx : Word x) (hy : Word y) (hc : c = 0 ∨ c = 1) : subLo x y c + y + c = x + 18446744073709551616 * subHi x y c := by unfold subLo subHi; unfold Word at hx hy; split <;> omega
theorem subLo_word (x y c : Int) : Word (subLo x y c) := by unfold subLo Word; omega
theorem subHi_bit (x y c : Int) : subHi x y c = 0 ∨ subHi x y c = 1 := by unfold subHi; split <;> simp

theorem lin_sub {P lo hi B z x c s t X : Int} (he : lo + x + c = z + B * hi) (hv : s + X = t + c * P) : s + P * lo + (X + P * x) = t + P * z + hi * (B * P) := by
  have h2 : P * lo + P * x + P * c = P * z + P * (B * hi) := by rw [← Int.mul_add, ← Int.mul_add, he, Int.mul_add]
  have h3 : hi * (B * P) = P * (B * hi) := by rw [← Int.mul_assoc, Int.mul_comm (hi * B) P, Int.mul_comm hi B]
  have h4 : c * P = P * c := Int.mul_comm _ _
  rw [h3]; omega
/-- What has become of row lz behind k rounds of taking away, the borrow c. -/
def SubAt (w wr : World) (zb : Nat) (tz : TypeId) (lz : List Int) (zo k : Nat) (X c : Int) : Prop :=
  (c = 0 ∨ c = 1) ∧ ∃ lk, Arr wr zb tz .u64 lk ∧ lk.length = lz.length ∧ Words lk ∧ (∀ j, j < zo ∨ zo + k ≤ j → lk.getD j 0 = lz.getD j 0) ∧ seg lk zo k + X = seg lz zo k + c * pw k ∧ w.grownBy wr (some zb)

theorem SubAt.step {w wr : World} {zb : Nat} {tz : TypeId} {lz : List Int} {zo k : Nat} {X c : Int} (h : SubAt w wr zb tz lz zo k X c) (hk : zo + k < lz.length) (hz : Words lz) {x : Int} (hx : Word x) :
    SubAt w (wr.setCell ⟨zb, zo + k, none⟩ (.int .u64 (subLo (lz.getD (zo + k) 0) x c))) zb tz lz zo (k + 1) (X + pw k * x) (subHi (lz.getD (zo + k) 0) x c) := by
  obtain ⟨hc, lk, ha, hlen, hw, hrest, hval, hg⟩ := h
  refine ⟨subHi_bit _ _ _, _, ha.set _ _, by simp [hlen], hw.set _ (subLo_word _ _ _), ?_, ?_, grownBy_trans hg (grownBy_set _ _ _ _)⟩
  · intro j hj
    rw [getD_set _ _ _ _ (by omega), if_neg (by omega)]
    exact hrest j (by omega)
  · rw [seg_succ (by simp; omega), seg_succ hk, getD_set _ _ _ _ (by omega), if_pos rfl,
      seg_congr (l := lk.set (zo + k) _) (l' := lk) (by simp; omega) (by omega) (fun j h1 h2 => by rw [getD_set _ _ _ _ (by omega), if_neg (by omega)])]
    exact lin_sub (sub_eq _ _ _ (hz.getD _) hx hc) hval

theorem SubAt.rest {w wr : World} {zb : Nat} {tz : TypeId} {lz : List Int} {zo k zl : Nat} {X : Int} (h : SubAt w wr zb tz lz zo k X 0) (hk : k ≤ zl) (hl : zo + zl ≤ lz.length) : SubAt w wr zb tz lz zo zl X 0 := by
  obtain ⟨hc, lk, ha, hlen, hw, hrest, hval, hg⟩ := h
  obtain ⟨m, rfl⟩ : ∃ m, zl = k + m := ⟨zl - k, by omega⟩
  refine ⟨.inl rfl, lk, ha, hlen, hw, fun j hj => hrest j (by omega), ?_, hg⟩
  rw [seg_add (by omega), seg_add (by omega), seg_congr (l := lk) (l' := lz) (o := zo + k) (by omega) (by omega) (fun j h1 _ => hrest j (by omega))]
  omega
/-- No borrow is left where what is taken away is not more. -/
theorem SubAt.none {w wr : World} {zb : Nat} {tz : TypeId} {lz : List Int} {zo zl : Nat} {X c : Int} (h : SubAt w wr zb tz lz zo zl X c) (hl : zo + zl ≤ lz.length) (hX : X ≤ seg lz zo zl) : c = 0 := by
  obtain ⟨hc, lk, ha, hlen, hw, hrest, hval, hg⟩ := h
  have := seg_bd hw zo zl (by omega)
  rcases hc with rfl | rfl
  · rfl
  · omega

end Go.Proofs.YtkggglhnhlclmaaDoor
