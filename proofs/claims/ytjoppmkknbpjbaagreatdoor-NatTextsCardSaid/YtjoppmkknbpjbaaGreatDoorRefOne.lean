/- Contract of the document's one: a number divided by one limb. -/
import Derived.Test.YtjoppmkknbpjbaaGreatDoorLDiv
import Derived.Test.YtjoppmkknbpjbaaGreatDoorRefShift
import Derived.Deep.LoopGhost
namespace Go.Proofs.YtjoppmkknbpjbaaGreatDoor
open Go.RowKit
set_option linter.unusedVariables false

/-- Above limb k: the quotient's limbs, and what is left. -/
def OneAt (A : List Int) (d : Int) (lk : List Int) (k : Nat) (r : Int) : Prop := (0 ≤ r ∧ r < d) ∧ lk.length = A.length ∧ Limbs lk ∧ lseg lk k (A.length - k) * d + r = lseg A k (A.length - k)
theorem OneAt.step {A : List Int} {d : Int} {lk : List Int} {j : Nat} {r : Int} (h : OneAt A d lk (j + 1) r) (hj : j < A.length) (hA : Limbs A) (hd : Limb d) :
    OneAt A d (lk.set j ((r * 4294967296 + A.getD j 0) / d)) j ((r * 4294967296 + A.getD j 0) % d) ∧ Limb ((r * 4294967296 + A.getD j 0) / d) := by
  obtain ⟨⟨r0, r1⟩, hl, hw, hv⟩ := h
  have hx := hA.getD j
  unfold Limb at hd hx
  have e1 := Int.mul_ediv_add_emod (r * 4294967296 + A.getD j 0) d
  have e2 := Int.emod_nonneg (r * 4294967296 + A.getD j 0) (show d ≠ 0 by omega)
  have e3 := Int.emod_lt_of_pos (r * 4294967296 + A.getD j 0) (show 0 < d by omega)
  have e4 : 0 ≤ (r * 4294967296 + A.getD j 0) / d := Int.ediv_nonneg (by omega) (by omega)
  have e5 : (r * 4294967296 + A.getD j 0) / d < 4294967296 := (Int.ediv_lt_iff_lt_mul (by omega)).2 (by omega)
  refine ⟨⟨⟨e2, e3⟩, by simp [hl], hw.set _ ⟨e4, e5⟩, ?_⟩, e4, e5⟩
  have hk : A.length - j = (A.length - (j + 1)) + 1 := by omega
  rw [hk, lseg_cons (l := A) (by omega), lseg_cons (l := lk.set j _) (by simp; omega), getD_set _ _ _ _ (by omega), if_pos rfl,
    lseg_congr (l := lk.set j _) (l' := lk) (by simp; omega) (by omega) (fun i h1 h2 => by rw [getD_set _ _ _ _ (by omega), if_neg (by omega)]), ← hv]
  rw [Int.add_mul, Int.mul_assoc 4294967296, Int.mul_comm _ d]
  omega
theorem OneAt.done {A : List Int} {d : Int} {lk : List Int} {r : Int} (h : OneAt A d lk 0 r) (hd : 0 < d) : lval lk = lval A / d ∧ r = lval A % d := by
  obtain ⟨⟨r0, r1⟩, hl, hw, hv⟩ := h
  rw [Nat.sub_zero, lseg_all, lseg_all, List.take_of_length_le (by omega), List.take_of_length_le (by omega)] at hv
  have := half_div (U := lval A) (Y := d) (q := lval lk) (by omega) (by omega)
  exact ⟨this.1.symm, by omega⟩
theorem or_high {r x : Int} (h0 : 0 ≤ r) (h1 : r < 4294967296) (hx : Limb x) : bits .or .u64 (r * 4294967296) x = r * 4294967296 + x := by
  have e : (2 : Int) ^ 32 = 4294967296 := by decide
  unfold Limb at hx
  have := or_shift (a := r) (c := x) (S := 32) h0 (by omega) (by rw [e]; omega) hx.1 (by rw [e]; omega)
  rw [e] at this
  exact this

/-- What one answers. -/
def RetOneLimb (n d : Int) (w : World) (e : Ending) (w' : World) : Prop := ∃ s, e = .returned (.tuple #[s, .int .u32 (n % d)]) ∧ IsNum w' s (n / d) ∧ Below w.heap.size w w'
set_option maxRecDepth 100000 in
set_option maxHeartbeats 1000000 in
theorem one_any (b t len cap : Nat) (l : List Int) (d : Int) (w : World) (ha : Arr w b t .u32 l) (hl : len ≤ l.length) (hm : len ≤ 4294967296) (hw : Limbs l) (hd : Limb d) (h0 : 0 < d) :
    Calls Tryz.prog 33 #[.slice (some ⟨b, 0, none⟩) len cap, .int .u32 d] w (RetOneLimb (lval (l.take len)) d w) := by
  have hmk := make32 len len rfl (by omega)
  have hAl : (l.take len).length = len := by rw [List.length_take, Nat.min_eq_left hl]
  have wA := hw.take len
  have hz : (d == 0) = false := by simp; omega
  obtain ⟨d0, d1⟩ := hd
  obtain ⟨z0, hz0⟩ : ∃ z0 : Int, (len : Int) - 1 = z0 := ⟨_, rfl⟩
  have Hz0 := Lib.hid hz0
  go_enter Tryz.func33, Tryz.ntmps33
  go_wp2_with fail
  go_loopg [7, 8] len (fun g r i wr => ∃ (k : Nat) (z rv : Int) (lk : List Int), g = k ∧ k ≤ len ∧ z = (k : Int) - 1 ∧ i = .int .i64 z ∧ r = .int .u64 rv ∧ OneAt (l.take len) d lk k rv ∧ Arr wr w.heap.size 53 .u32 lk ∧ Below w.heap.size w wr)
  case atStart => exact ⟨len, z0, 0, List.replicate len 0, rfl, Nat.le_refl _, by omega, rfl, rfl, ⟨⟨Int.le_refl _, h0⟩, by simp [hAl], Limbs.replicate _, by rw [hAl, Nat.sub_self, lseg_zero, lseg_zero]; simp⟩, Arr.zeros w _ _ _ _ rfl, by go_grown⟩
  case round =>
    clear hz0
    obtain ⟨k, z, rv, lk, hg, hk, hz, rfl, rfl, hat, hak, hB⟩ := hrel
    have Hg := Lib.hid hg
    clear hg
    rcases k with _ | j
    · have hzn : z < 0 := by omega
      have hdn := hat.done h0
      have hlk := hat.2.1
      rw [hAl] at hlk
      have tr := ltrim_any w.heap.size 53 len len lk wr hak (Nat.le_refl _) (by omega) (by omega)
      have l1 := trimLen_le lk len
      have l2 := trimLen_last lk len
      have l3 := lval_trim lk len (by omega)
      have e0 : lk.take len = lk := List.take_of_length_le (by omega)
      rw [e0, hdn.1] at l3
      generalize trimLen lk len = m at tr l1 l2 l3
      have hn := isNum_arr hak (len := m) (cap := len) (by omega) (by omega) hat.2.2.1 l2
      rw [l3] at hn
      have Hn := Lib.hid hn
      have Hr := Lib.hid hdn.2
      obtain ⟨r0, r1⟩ := hat.1
      clear hz l2 l3 hn hdn hat hlk hAl e0
      go_wp2_with (go_at_call 41; refine tr.mono ?_; rintro e W1 ⟨rfl, rfl⟩)
      go_ret2
      exact ⟨_, by rw [← Hr.out]; rfl, Hn.out, hB⟩
    · obtain rfl : z = (j : Int) := by omega
      have st := hat.step (by omega) wA ⟨d0, d1⟩
      have hx : (l.take len).getD j 0 = l.getD j 0 := by rw [getD_take, if_pos (by omega)]
      have hcx := (ha.below hB ha.lt).cell j (by omega)
      obtain ⟨x0, x1⟩ := hw.getD j
      rw [hx] at st
      have hco := hak.free j
      have hlk := hat.2.1
      rw [hAl] at hlk
      have hcz := hak.cell j (by omega)
      obtain ⟨r0, r1⟩ := hat.1
      have hor := or_high r0 (by omega) (hw.getD j)
      generalize l.getD j 0 = x at hcx st x0 x1 hor
      generalize lk.getD j 0 = y at hcz
      obtain ⟨T, hT⟩ : ∃ T, rv * 4294967296 + x = T := ⟨_, rfl⟩
      rw [hT] at hor st
      have t0 : 0 ≤ T := by omega
      have t1 : T < 18446744073709551616 := by omega
      obtain ⟨st1, st2, st3⟩ := st
      obtain ⟨Q, hQ⟩ : ∃ Q, T / d = Q := ⟨_, rfl⟩
      rw [hQ] at st1 st2 st3
      have St := Lib.hid st1
      have hjl : (j : Int) < (len : Int) := by omega
      clear hz st1 hat hT hlk hAl hx
      go_wp2_with fail
      go_roundg j
      case measure => have := Hg.out; omega
      case rel => exact ⟨j, _, _, _, rfl, by omega, rfl, rfl, rfl, St.out, hak.set _ _, hB.setCell (p := ⟨w.heap.size, j, none⟩) (Nat.le_refl _) _⟩
theorem one_nil (d : Int) (w : World) (hd : Limb d) (h0 : 0 < d) :
    Calls Tryz.prog 33 #[.slice none 0 0, .int .u32 d] w (RetOneLimb 0 d w) := by
  have hmk := make32 0 0 rfl (by omega)
  go_enter Tryz.func33, Tryz.ntmps33
  go_wp2_with fail
  go_rounds 1
  have ha : Arr (w.alloc (.cells (zeros .u32 0) 53)) w.heap.size 53 .u32 [] := Arr.zeros w _ _ 0 _ rfl
  go_rounds 1
  go_ret2
  have hn := isNum_arr ha (len := 0) (cap := 0) (Nat.le_refl _) (by omega) Limbs.nil (fun h => absurd rfl h)
  exact ⟨_, by simp; rfl, by simpa [lval] using hn, by go_grown⟩
theorem one_num (s : Value) (n d : Int) (w : World) (h : IsNum w s n) (hd : Limb d) (h0 : 0 < d) : Calls Tryz.prog 33 #[s, .int .u32 d] w (RetOneLimb n d w) := by
  obtain ⟨L, h1, h2, rfl⟩ := h
  rcases h1 with ⟨rfl, rfl⟩ | ⟨b, t, len, cap, l, rfl, ha, k1, k2, hw, rfl⟩
  · exact one_nil d w hd h0
  · exact one_any b t len cap l d w ha k1 k2 hw hd h0
end Go.Proofs.YtjoppmkknbpjbaaGreatDoor
