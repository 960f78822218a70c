/- Contract of abaculusref1.NatFrom: some number of as many limbs. -/
import Derived.Test.YtjaepdjidfhamaaDoorRef0
namespace Go.Proofs.YtjaepdjidfhamaaDoor
open Go.RowKit
set_option linter.unusedVariables false

theorem info32 : (Tryd.prog.info? 84).map (fun i => (i.zero, i.size, i.bytes)) = some (some (.int .u32 0), 1, 4) := by kernel_rfl
theorem make32 (n : Nat) (i : Int) (hi : i = n) (hn : n ≤ 35184372088832) (w : World) :
    (Instr.makeSlice 44 (.int .i64 i) (.int .i64 i)).run Tryd.prog w = .ok (.slice (some ⟨w.heap.size, 0, none⟩) n n) (w.alloc (.cells (zeros .u32 n) 84)) := by
  subst hi
  obtain ⟨i0, hi, hz0, hz1, hz2⟩ := info_parts info32
  have hr := run_make (P := Tryd.prog) w 44 84 i0 _ Tryd.underlying44 hi hz0 .i64 .i64 n n (by omega) (Int.le_refl _) (by rw [hz2]; omega) (by omega)
  rw [hr, Int.toNat_natCast, hz1, Nat.mul_one]
  show Result.ok _ (w.alloc (.cells (madeCells #[.int .u32 0] n) 84)) = _
  rw [madeCells_zeros]

theorem or_limb {x y : Int} (hx : Limb x) (hy : Limb y) : Limb (bits .or .u32 x y) := by
  obtain ⟨X, rfl⟩ := Int.eq_ofNat_of_zero_le hx.1
  obtain ⟨Y, rfl⟩ := Int.eq_ofNat_of_zero_le hy.1
  have h1 := hx.2
  have h2 := hy.2
  rw [u32_or_nat X Y (by omega) (by omega)]
  have := Nat.or_lt_two_pow (x := X) (y := Y) (n := 32) (by omega) (by omega)
  exact ⟨by omega, by omega⟩
theorem wrap_limb (x : Int) : Limb (IntKind.u32.wrap x) := by
  rw [IntKind.wrap_u32]; exact ⟨by omega, by omega⟩

set_option maxRecDepth 100000 in
set_option maxHeartbeats 1000000 in
theorem natFrom_any (b t len cap : Nat) (l : List Int) (w : World) (ha : Arr w b t .u8 l) (hl : len ≤ l.length) (hm : len ≤ 48) (hby : ∀ x ∈ l, 0 ≤ x ∧ x < 256) :
    Calls Tryd.prog 40 #[.slice (some ⟨b, 0, none⟩) len cap] w fun e w' => (∃ g n l, e = .returned (.slice (some ⟨g, 0, none⟩) n ((len + 3) / 4)) ∧ Arr w' g 84 .u32 l ∧ l.length = (len + 3) / 4 ∧ Limbs l ∧ n ≤ (len + 3) / 4 ∧ (n ≠ 0 → l.getD (n - 1) 0 ≠ 0)) ∧ Below w.heap.size w w' := by
  obtain ⟨L, hL⟩ : ∃ L, (len + 3) / 4 = L := ⟨_, rfl⟩
  rw [hL]
  have hi : (((len : Int) + 3) / 4) = (L : Int) := by omega
  have hmk := make32 L L rfl (by omega)
  have k1 := ha.lt
  have HL := Lib.hid hL
  clear hL
  go_enter Tryd.func40, Tryd.ntmps40
  go_wp2_with (rw [hi])
  go_loopw [4] (fun i wr => ∃ (k : Nat) (lk : List Int), k ≤ len ∧ i = .int .i64 k ∧ lk.length = L ∧ Limbs lk ∧ Arr wr w.heap.size 84 .u32 lk ∧ Below w.heap.size w wr) (fun i _ => len - (intOf i).toNat)
  case atStart => exact ⟨0, _, Nat.zero_le _, rfl, by simp, Limbs.replicate L, Arr.zeros _ _ _ L _ rfl, by go_grown⟩
  case round =>
    obtain ⟨k, lk, hk, rfl, hlen, hwk, hak, hB⟩ := hrel
    by_cases hlt : k < len
    · obtain ⟨p, hp⟩ : ∃ p : Nat, len - 1 - k = p := ⟨_, rfl⟩
      have hpi : (len : Int) - 1 - k = p := by omega
      have hr := Nat.mod_lt p (show 4 > 0 by decide)
      have hq : p / 4 < L := by have := HL.out; omega
      have hcx := (ha.below hB k1).cell k (by omega)
      have hb : 0 ≤ l.getD k 0 ∧ l.getD k 0 < 256 := by
        rw [List.getD_eq_getElem?_getD, List.getElem?_eq_getElem (by omega)]
        exact hby _ (List.getElem_mem _)
      have hqi : (p : Int) / 4 = ((p / 4 : Nat) : Int) := by omega
      have hri : (p : Int) % 4 = ((p % 4 : Nat) : Int) := by omega
      generalize p / 4 = q at hq hqi
      generalize p % 4 = r at hr hri
      have hco := hak.cell q (by omega)
      have hfo := hak.free q
      have hx := hwk.getD q
      generalize lk.getD q 0 = x at hco hx
      generalize l.getD k 0 = c at hcx hb
      have hq0 : (0 : Int) ≤ (q : Int) := by omega
      have hqL : (q : Int) < (L : Int) := by omega
      have hr0 : (0 : Int) ≤ 8 * (r : Int) := by omega
      have hr8 : 8 * (r : Int) < 32 := by omega
      have hset := fun y (hy : Limb y) => hwk.set q (or_limb hx hy)
      have Hset := Lib.hid hset
      have Hp := Lib.hid hp
      have Hlen := Lib.hid hlen
      have Hx := Lib.hid hx
      have Hwk := Lib.hid hwk
      clear hset hp hlen hx hwk hby
      go_wp2_with fail
      go_region
      have hy : Limb (c * 2 ^ (8 * r) % 4294967296) := ⟨Int.emod_nonneg _ (by decide), Int.emod_lt_of_pos _ (by decide)⟩
      generalize c * 2 ^ (8 * r) % 4294967296 = y at hy ⊢
      have hnew := Hset.out y hy
      go_wp2
      exact ⟨⟨k + 1, _, by omega, by go_num, by rw [List.length_set]; exact Hlen.out, hnew, hak.set _ _, (hB.setCell (p := ⟨w.heap.size, q, none⟩) (Nat.le_refl _) _).drew⟩, by simp [intOf]; omega⟩
    · obtain rfl : k = len := by omega
      have ht1 := trimLen_le lk L
      have ht2 := trimLen_last lk L
      go_wp2_with fail
      refine (ltrim_any w.heap.size 84 L L lk wr hak (Nat.le_refl _) (by omega) (by have := HL.out; omega)).mono ?_
      rintro e w1 ⟨rfl, rfl⟩
      generalize trimLen lk L = m at ht1 ht2
      have Ht2 := Lib.hid ht2
      clear ht2
      go_wp2
      go_ret
      exact ⟨⟨_, m, lk, rfl, hak, hlen, hwk, ht1, Ht2.out⟩, hB⟩
end Go.Proofs.YtjaepdjidfhamaaDoor
