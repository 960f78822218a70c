/- Contracts of the document's NatShift: a number moved by bits, limb by limb. Contracts of the document's NatPow and NatRoot. -/
import Derived.Test.YtogildikglomkaaGreatDoorRefNum
import Derived.Test.YtogildikglomkaaGreatDoorApp
import Derived.Test.YtogildikglomkaaGreatDoorHalf
import Derived.LoopTactic
import Derived.Test.YtogildikglomkaaGreatDoorCloneAt
import Derived.Deep.LoopGhost
namespace Go.Proofs.YtogildikglomkaaGreatDoor
open Go.RowKit
set_option linter.unusedVariables false

theorem own_limbed {w : World} {B : Nat} {e : TypeId} {v : Value} {xs : List Int} (h : Own w B .u32 e v xs) (hw : Limbs xs) (hm : xs.length ≤ 4294967296) : Limbed w v xs := by
  rcases h with h | ⟨b, z, rfl, ha, hb⟩
  · exact .inl h
  · exact .inr ⟨b, e, xs.length, _, _, rfl, ha, by simp, hm, hw.append (Limbs.replicate z), List.take_left.symm⟩
theorem ltrim_nil (w : World) : Calls Tryz.prog 59 #[.slice none 0 0] w fun e w' => e = .returned (.slice none 0 0) ∧ w = w' := by
  go_enter Tryz.func59, Tryz.ntmps59
  go_wp2
  go_rounds 1
  go_ret
  exact ⟨rfl, rfl⟩
/-- trim of a row of the call's own. -/
theorem trim_own {w : World} {B : Nat} {e : TypeId} {v : Value} {xs : List Int} (h : Own w B .u32 e v xs) (hw : Limbs xs) (hm : xs.length ≤ 4294967296) :
    Calls Tryz.prog 59 #[v] w fun e w' => (∃ s, e = .returned s ∧ IsNum w s (lval xs)) ∧ w = w' := by
  rcases h with ⟨rfl, rfl⟩ | ⟨b, z, rfl, ha, hb⟩
  · refine (ltrim_nil w).mono ?_
    rintro e w' ⟨rfl, rfl⟩
    exact ⟨⟨_, rfl, [], .inl ⟨rfl, rfl⟩, fun h => absurd rfl h, rfl⟩, rfl⟩
  · refine (ltrim_any b e xs.length _ _ w ha (by omega) (by simp) (by omega)).mono ?_
    rintro e w' ⟨rfl, rfl⟩
    have l1 := trimLen_le (xs ++ List.replicate z 0) xs.length
    have l2 := trimLen_last (xs ++ List.replicate z 0) xs.length
    have l3 := lval_trim (xs ++ List.replicate z 0) xs.length (by simp)
    rw [List.take_left] at l3
    refine ⟨⟨_, rfl, ?_⟩, rfl⟩
    rw [← l3]
    exact isNum_arr ha (by simp; omega) (by omega) (hw.append (Limbs.replicate z)) l2

theorem pow_add_mulL (a b : Nat) (x : Int) : x * 2 ^ (a + b) = x * 2 ^ b * 2 ^ a := by
  rw [Int.pow_add, Int.mul_comm (2 ^ a), Int.mul_assoc]
/-- What has come of a shift up behind k limbs, c goes beyond. -/
def UpL (A ys : List Int) (r k : Nat) (c : Int) : Prop := (0 ≤ c ∧ c < 2 ^ r) ∧ ys.length = k ∧ Limbs ys ∧ lval ys + c * lpw k = lval (A.take k) * 2 ^ r
theorem two32 {r : Nat} (hr : r ≤ 31) : (2 : Int) ^ r ≤ 2147483648 := by
  have := two_pow_mono hr
  have h : (2 : Int) ^ 31 = 2147483648 := by decide
  omega
theorem limb_shift {x : Int} {r : Nat} (h : Limb x) (hr : r ≤ 31) : 0 ≤ x * 2 ^ r ∧ x * 2 ^ r + 2 ^ r ≤ 4294967296 * 2 ^ r ∧ x * 2 ^ r < 9223372036854775808 ∧ IntKind.u64.wrap (x * 2 ^ r) = x * 2 ^ r := by
  have p := two32 hr
  have p0 : (0 : Int) < 2 ^ r := Int.pow_pos (by decide)
  have h1 : (x + 1) * 2 ^ r ≤ 4294967296 * 2 ^ r := Int.mul_le_mul_of_nonneg_right (by have := h.2; omega) (by omega)
  have h2 : 0 ≤ x * 2 ^ r := Int.mul_nonneg h.1 (by omega)
  rw [Int.add_mul, Int.one_mul] at h1
  exact ⟨h2, h1, by omega, by rw [IntKind.wrap_u64]; omega⟩
theorem or_comm_u64 {a b : Int} (ha : 0 ≤ a) (ha2 : a < 18446744073709551616) (hb : 0 ≤ b) (hb2 : b < 18446744073709551616) : bits .or .u64 a b = bits .or .u64 b a := by
  obtain ⟨X, rfl⟩ := Int.eq_ofNat_of_zero_le ha
  obtain ⟨Y, rfl⟩ := Int.eq_ofNat_of_zero_le hb
  rw [u64_or_nat X Y (by omega) (by omega), u64_or_nat Y X (by omega) (by omega), Nat.or_comm]
theorem limb_or {x c : Int} {r : Nat} (h : Limb x) (hr : r ≤ 31) (h0 : 0 ≤ c) (hc : c < 2 ^ r) : bits .or .u64 c (x * 2 ^ r) = x * 2 ^ r + c := by
  obtain ⟨h1, h2, h3, h4⟩ := limb_shift h hr
  have p := two32 hr
  rw [or_comm_u64 h0 (by omega) h1 (by omega), or_shift h.1 (by omega) (by omega) h0 hc]
theorem lin_upl {P B T lo hi x c s : Int} (h1 : T = lo + B * hi) (h2 : T = x + c) : s + P * lo + hi * (B * P) = s + c * P + P * x := by
  have e1 : P * T = P * lo + P * (B * hi) := by rw [h1, Int.mul_add]
  have e2 : P * T = P * x + P * c := by rw [h2, Int.mul_add]
  have e3 : hi * (B * P) = P * (B * hi) := by rw [Int.mul_left_comm, Int.mul_comm hi P, Int.mul_left_comm]
  have e4 : c * P = P * c := Int.mul_comm _ _
  omega
theorem UpL.step {A ys : List Int} {r k : Nat} {c : Int} (h : UpL A ys r k c) (hA : Limbs A) (hr : r ≤ 31) : UpL A (ys ++ [(A.getD k 0 * 2 ^ r + c) % 4294967296]) r (k + 1) ((A.getD k 0 * 2 ^ r + c) / 4294967296) := by
  obtain ⟨⟨c0, c1⟩, hl, hw, hv⟩ := h
  obtain ⟨h1, h2, h3, h4⟩ := limb_shift (hA.getD k) hr
  have p := two32 hr
  have p0 : (0 : Int) < 2 ^ r := Int.pow_pos (by decide)
  refine ⟨⟨Int.ediv_nonneg (by omega) (by decide), ?_⟩, by simp [hl], hw.append (Limbs.cons ⟨by omega, by omega⟩ Limbs.nil), ?_⟩
  · refine Int.ediv_lt_of_lt_mul (by decide) ?_
    omega
  · rw [lval_append, hl, lval_take_next A, Int.add_mul, ← hv]
    simp only [lval, Int.mul_zero, Int.add_zero, lpw]
    rw [Int.mul_assoc (lpw k)]
    exact lin_upl (T := A.getD k 0 * 2 ^ r + c) (by omega) rfl
theorem lval_pos_end {A ys : List Int} {r n : Nat} {c : Int} (h : UpL A ys r (n + 1) c) (hA : Limbs A) (hr : r ≤ 31) (hn : A.length = n) : lval ys = lval A * 2 ^ r := by
  obtain ⟨⟨c0, c1⟩, hl, hw, hv⟩ := h
  rw [List.take_of_length_le (by omega)] at hv
  have h1 := lval_bd hA
  have h2 := lval_bd hw
  have p := two32 hr
  have p0 : (0 : Int) < 2 ^ r := Int.pow_pos (by decide)
  have q := lpw_pos n
  rw [hn] at h1
  have h3 : lval A * 2 ^ r < lpw n * 2 ^ r := Int.mul_lt_mul_of_pos_right h1.2 p0
  have h4 : lpw n * 2 ^ r ≤ lpw n * 4294967296 := Int.mul_le_mul_of_nonneg_left (by omega) (by omega)
  have h5 : c = 0 := by
    apply Int.le_antisymm _ c0
    apply Int.le_of_not_gt
    intro g
    have h6 : 1 * lpw (n + 1) ≤ c * lpw (n + 1) := Int.mul_le_mul_of_nonneg_right (by omega) (Int.le_of_lt (lpw_pos _))
    simp only [lpw] at h6 hv
    omega
  subst h5
  omega

set_option maxRecDepth 100000 in
set_option maxHeartbeats 1000000 in
theorem natShift_up (s : Value) (A : List Int) (q r : Nat) (w : World) (h : Limbed w s A) (hA : A.length ≤ 1048576) (hr : r ≤ 31) (hq : q ≤ 1048576) :
    Calls Tryz.prog 93 #[s, .int .i64 ((32 * q + r : Nat) : Int)] w (RetNum (lval A * 2 ^ (32 * q + r)) w) := by
  obtain ⟨pa, ca, rfl⟩ := h.shape
  have wa := h.limbs
  obtain ⟨n, hn⟩ : ∃ n, 32 * q + r = n := ⟨_, rfl⟩
  have d1 : ((n : Nat) : Int) / 32 = (q : Int) := by omega
  have d2 : ((n : Nat) : Int) % 32 = (r : Int) := by omega
  have d3 : 0 ≤ (n : Int) := by omega
  have d4 : (n : Int) ≤ 67108864 := by omega
  have hmk := make32 q q rfl (by omega)
  rw [hn]
  have Hn := Lib.hid hn
  clear hn
  go_enter Tryz.func93, Tryz.ntmps93
  go_wp2_with fail
  go_loopw [5, 6, 7] (fun o c i wr => ∃ (k : Nat) (cv : Int) (ys : List Int), k ≤ A.length + 1 ∧ i = .int .i64 k ∧ c = .int .u64 cv ∧ UpL A ys r k cv ∧ Own wr w.heap.size .u32 101 o (List.replicate q 0 ++ ys) ∧ Below w.heap.size w wr) (fun _ _ i _ => A.length + 1 - (intOf i).toNat)
  case atStart => exact ⟨0, 0, [], Nat.zero_le _, rfl, rfl, ⟨⟨Int.le_refl _, Int.pow_pos (by decide)⟩, rfl, Limbs.nil, by simp [lval]⟩, by simpa using own_zeros w _ _ _ q (Nat.le_refl _), by go_grown⟩
  case round =>
    obtain ⟨k, cv, ys, hk, rfl, rfl, hat, hown, hB⟩ := hrel
    obtain ⟨po, co, hov⟩ := hown.shape
    obtain ⟨m, hm⟩ : ∃ m, (List.replicate q 0 ++ ys).length = m := ⟨_, rfl⟩
    rw [hm] at hov
    subst hov
    have Hm := Lib.hid hm
    clear hm
    by_cases hlt : k ≤ A.length
    · have la := at_any h k wr hB
      have st := hat.step wa hr
      obtain ⟨l1, l2, l3, l4⟩ := limb_shift (wa.getD k) hr
      have lo := limb_or (wa.getD k) hr hat.1.1 hat.1.2
      have lb := wa.getD k
      have hyl := hat.2.1
      have p := two32 hr
      obtain ⟨c0, c1⟩ := hat.1
      generalize A.getD k 0 = x at la st l1 l2 l3 l4 lo lb
      obtain ⟨x0, x1⟩ := lb
      obtain ⟨X, hX⟩ : ∃ X, x * 2 ^ r = X := ⟨_, rfl⟩
      have l5 : IntKind.u64.wrap (x * 2 ^ r) = X := l4.trans hX
      rw [hX] at l1 l2 l3 lo st
      clear l4 hX
      obtain ⟨T, hT⟩ : ∃ T, X + cv = T := ⟨_, rfl⟩
      rw [hT] at lo st
      have T0 : 0 ≤ T := by omega
      have T1 : T < 18446744073709551616 := by omega
      clear hT
      obtain ⟨y, hy⟩ : ∃ y, T % 4294967296 = y := ⟨_, rfl⟩
      obtain ⟨c2, hc2⟩ : ∃ c2, T / 4294967296 = c2 := ⟨_, rfl⟩
      rw [hy, hc2] at st
      have St := Lib.hid st
      have Hyl := Lib.hid hyl
      clear st hyl hat
      have hc : ∀ W : World, (W.alloc (.cells #[.int .u32 y] 101)).cell? ⟨W.heap.size, 0, none⟩ = some (.int .u32 y) := fun W => by rw [cell_of_row _ _ 0 _ _ (0, 0) (heap_new W _ _ rfl)]; rfl
      have hlen : (List.replicate q 0 ++ ys).length + 1 ≤ 4294967296 := by have := Hyl.out; simp; omega
      have Hc := Lib.hid hc
      have Hlen := Lib.hid hlen
      have hsz := hB.size
      clear hc hlen hsz
      go_wp2_with (first | (go_at_call 122; (with_reducible refine la.mono ?_); rintro e W1 ⟨rfl, rfl⟩) | (at_builtin; obtain ⟨v', w', hrun, hown', hbel⟩ := app_one (P := Tryz.prog) (k := .u32) 47 Tryz.underlying47 info32 (by decide) (w := wr.alloc (.cells #[.int .u32 y] 101)) (B := w.heap.size) (by have := hB.size; simp; omega) (hown.alloc _) (Hc.out wr) Hlen.out; refine Lib.wpList_append_run _ rfl _ _ _ _ rfl _ _ rfl rfl _ _ hrun ?_))
      exact ⟨⟨k + 1, c2, ys ++ [y], by omega, by go_num, rfl, St.out, by rw [← List.append_assoc]; exact hown', (hB.alloc hB.size _).trans hbel⟩, by simp [intOf]; omega⟩
    · obtain rfl : k = A.length + 1 := by omega
      have hv := lval_pos_end hat wa hr rfl
      have hyl := hat.2.1
      have hval : lval (List.replicate q 0 ++ ys) = lval A * 2 ^ n := by
        rw [lval_append, lval_replicate, List.length_replicate, hv, lpw_two, ← Hn.out, pow_add_mulL, Int.zero_add, Int.mul_left_comm, Int.mul_comm (2 ^ (32 * q))]
        rw [Int.mul_assoc]
      have tr := trim_own hown ((Limbs.replicate q).append hat.2.2.1) (by simp; omega)
      rw [hval] at tr
      clear hat hv hval hyl
      go_wp2_with fail
      refine tr.mono ?_
      rintro e W1 ⟨⟨s, rfl, hs⟩, rfl⟩
      go_wp2_with fail
      go_ret
      exact ⟨s, rfl, hs, hB⟩

theorem or_two_limbs {x y : Int} (hx : Limb x) (hy : Limb y) : bits .or .u64 x (y * 4294967296) = x + y * 4294967296 := by
  have e : (2 : Int) ^ 32 = 4294967296 := by decide
  unfold Limb at hx hy
  have := or_shift (a := y) (c := x) (S := 32) hy.1 (by omega) (by rw [e]; omega) hx.1 (by rw [e]; omega)
  rw [e] at this
  rw [or_comm_u64 hx.1 (by omega) (by omega) (by omega), this, Int.add_comm]
/-- What has come of a shift down behind k limbs. -/
def DownL (A ys : List Int) (q r k : Nat) : Prop := ys.length = k ∧ Limbs ys ∧ lval ys * 2 ^ r + A.getD q 0 % 2 ^ r = lval ((A.drop q).take k) + A.getD (q + k) 0 % 2 ^ r * lpw k
theorem limb_down {x z : Int} {r : Nat} (hx : Limb x) (hz : Limb z) (hr : r ≤ 31) : Limb ((x + z * 4294967296) / 2 ^ r % 4294967296) ∧ (x + z * 4294967296) / 2 ^ r % 4294967296 * 2 ^ r = x - x % 2 ^ r + z % 2 ^ r * 4294967296 := by
  have p0 : (0 : Int) < 2 ^ r := Int.pow_pos (by decide)
  have q0 : (0 : Int) < 2 ^ (32 - r) := Int.pow_pos (by decide)
  have e : (2 : Int) ^ (32 - r) * 2 ^ r = 4294967296 := by rw [← Int.pow_add, Nat.sub_add_cancel (by omega)]; decide
  have h1 : (x + z * 4294967296) / 2 ^ r = x / 2 ^ r + z * 2 ^ (32 - r) := by
    rw [← e, ← Int.mul_assoc, Int.add_mul_ediv_right _ _ (by omega)]
  have h2 := Int.mul_ediv_add_emod z (2 ^ r)
  have h3 := Int.mul_ediv_add_emod x (2 ^ r)
  have h4 := Int.emod_nonneg z (show (2 : Int) ^ r ≠ 0 by omega)
  have h5 := Int.emod_lt_of_pos z p0
  have h6 := Int.emod_nonneg x (show (2 : Int) ^ r ≠ 0 by omega)
  have h7 := Int.emod_lt_of_pos x p0
  have h8 : 0 ≤ x / 2 ^ r := Int.ediv_nonneg hx.1 (by omega)
  have h9 : x / 2 ^ r < 2 ^ (32 - r) := Int.ediv_lt_of_lt_mul p0 (by rw [e]; exact hx.2)
  generalize x / 2 ^ r = xq at *
  generalize x % 2 ^ r = xr at *
  generalize z / 2 ^ r = zq at *
  generalize z % 2 ^ r = zr at *
  generalize (2 : Int) ^ (32 - r) = U at *
  generalize (2 : Int) ^ r = T at *
  have h10 : z * U = zq * 4294967296 + zr * U := by rw [← h2, Int.add_mul, ← e, Int.mul_comm T zq, Int.mul_assoc, Int.mul_comm T U]
  have h11 : 0 ≤ zr * U := Int.mul_nonneg h4 (by omega)
  have h12 : zr * U + U ≤ 4294967296 := by
    have : (zr + 1) * U ≤ T * U := Int.mul_le_mul_of_nonneg_right (by omega) (by omega)
    rw [Int.add_mul, Int.one_mul, Int.mul_comm T, e] at this
    exact this
  have h13 : (x + z * 4294967296) / T % 4294967296 = xq + zr * U := by rw [h1, h10]; omega
  rw [h13]
  refine ⟨⟨by omega, by omega⟩, ?_⟩
  rw [Int.add_mul, Int.mul_assoc, e]
  have : T * xq = xq * T := Int.mul_comm _ _
  omega
theorem DownL.step {A ys : List Int} {q r k : Nat} (h : DownL A ys q r k) (hA : Limbs A) (hr : r ≤ 31) (hk : q + k < A.length) : DownL A (ys ++ [(A.getD (q + k) 0 + A.getD (q + k + 1) 0 * 4294967296) / 2 ^ r % 4294967296]) q r (k + 1) := by
  obtain ⟨hl, hw, hv⟩ := h
  obtain ⟨h1, h2⟩ := limb_down (hA.getD (q + k)) (hA.getD (q + k + 1)) hr
  refine ⟨by simp [hl], hw.append (Limbs.cons h1 Limbs.nil), ?_⟩
  have e0 : (A.drop q).getD k 0 = A.getD (q + k) 0 := getD_drop A q k
  rw [lval_append, hl, lval_take_next (A.drop q), e0, Int.add_mul, ← Nat.add_assoc]
  generalize (A.getD (q + k) 0 + A.getD (q + k + 1) 0 * 4294967296) / 2 ^ r % 4294967296 = y at *
  simp only [lval, Int.mul_zero, Int.add_zero, lpw]
  have e1 : lpw k * y * 2 ^ r = lpw k * A.getD (q + k) 0 - lpw k * (A.getD (q + k) 0 % 2 ^ r) + lpw k * (A.getD (q + k + 1) 0 % 2 ^ r * 4294967296) := by rw [Int.mul_assoc, h2, Int.mul_add, Int.mul_sub]
  have e2 : A.getD (q + k) 0 % 2 ^ r * lpw k = lpw k * (A.getD (q + k) 0 % 2 ^ r) := Int.mul_comm _ _
  have e3 : A.getD (q + k + 1) 0 % 2 ^ r * (4294967296 * lpw k) = lpw k * (A.getD (q + k + 1) 0 % 2 ^ r * 4294967296) := by rw [← Int.mul_assoc, Int.mul_comm]
  omega
theorem DownL.done {A ys : List Int} {q r k : Nat} (h : DownL A ys q r k) (hk : A.length ≤ q + k) : lval ys = lval (A.drop q) / 2 ^ r := by
  obtain ⟨hl, hw, hv⟩ := h
  have p0 : (0 : Int) < 2 ^ r := Int.pow_pos (by decide)
  rw [getD_out (l := A) (i := q + k) hk, List.take_of_length_le (by rw [List.length_drop]; omega)] at hv
  have h6 := Int.emod_nonneg (A.getD q 0) (show (2 : Int) ^ r ≠ 0 by omega)
  have h7 := Int.emod_lt_of_pos (A.getD q 0) p0
  simp only [Int.zero_emod, Int.zero_mul, Int.add_zero] at hv
  rw [← hv, Int.add_comm, Int.add_mul_ediv_right _ _ (by omega), Int.ediv_eq_zero_of_lt h6 h7, Int.zero_add]
theorem lval_drop {l : List Int} {j : Nat} (h : Limbs l) : lval (l.drop j) = lval l / 2 ^ (32 * j) := by
  have h3 := lpw_pos j
  by_cases hj : j ≤ l.length
  · have h1 := lval_append (l.take j) (l.drop j)
    rw [List.take_append_drop, List.length_take, Nat.min_eq_left hj] at h1
    have h2 := lval_bd (h.take j)
    rw [List.length_take, Nat.min_eq_left hj] at h2
    rw [h1, ← lpw_two, Int.add_mul_ediv_left _ _ (by omega), Int.ediv_eq_zero_of_lt h2.1 h2.2, Int.zero_add]
  · have h2 := lval_bd h
    have h4 := lpw_mono (a := l.length) (b := j) (by omega)
    rw [List.drop_of_length_le (by omega), ← lpw_two, Int.ediv_eq_zero_of_lt h2.1 (by omega)]
    rfl

set_option maxRecDepth 100000 in
set_option maxHeartbeats 1000000 in
theorem natShift_down (s : Value) (A : List Int) (q r : Nat) (w : World) (h : Limbed w s A) (hA : A.length ≤ 1048576) (hr : r ≤ 31) (hq : q ≤ 1048576) (h1 : 1 ≤ 32 * q + r) :
    Calls Tryz.prog 93 #[s, .int .i64 (-((32 * q + r : Nat) : Int))] w (RetNum (lval A / 2 ^ (32 * q + r)) w) := by
  obtain ⟨pa, ca, rfl⟩ := h.shape
  have wa := h.limbs
  obtain ⟨n, hn⟩ : ∃ n, 32 * q + r = n := ⟨_, rfl⟩
  have hfin : lval (A.drop q) / 2 ^ r = lval A / 2 ^ n := by
    rw [lval_drop wa, ← hn, Int.pow_add, Int.ediv_ediv_of_nonneg (Int.le_of_lt (Int.pow_pos (by decide)))]
  rw [hn]
  obtain ⟨z, hz⟩ : ∃ z : Int, -(n : Int) = z := ⟨_, rfl⟩
  have d1 : (n : Int) / 32 = (q : Int) := by omega
  have d2 : (n : Int) % 32 = (r : Int) := by omega
  have d3 : 0 ≤ (n : Int) := by omega
  have d4 : (n : Int) ≤ 67108864 := by omega
  have d5 : z < 0 := by omega
  have d6 : -z = (n : Int) := by omega
  have d7 : -9223372036854775808 < z := by omega
  rw [hz]
  have Hfin := Lib.hid hfin
  clear hz hn hfin
  go_enter Tryz.func93, Tryz.ntmps93
  go_wp2_with fail
  go_loopw [8, 9] (fun o i wr => ∃ (k : Nat) (ys : List Int), i = .int .i64 ((q + k : Nat) : Int) ∧ (k = 0 ∨ q + k ≤ A.length) ∧ DownL A ys q r k ∧ Own wr w.heap.size .u32 101 o ys ∧ Below w.heap.size w wr) (fun _ i _ => A.length - (intOf i).toNat)
  case atStart => exact ⟨0, [], by go_num, .inl rfl, ⟨rfl, Limbs.nil, by simp [lval, lpw]⟩, own_nil _ _ _ _, Below.refl _ _⟩
  case round =>
    obtain ⟨k, ys, rfl, hk, hat, hown, hB⟩ := hrel
    obtain ⟨po, co, hov⟩ := hown.shape
    obtain ⟨m, hm⟩ : ∃ m, ys.length = m := ⟨_, rfl⟩
    rw [hm] at hov
    subst hov
    have Hm := Lib.hid hm
    obtain ⟨j, hj⟩ : ∃ j, q + k = j := ⟨_, rfl⟩
    rw [hj]
    have Hj := Lib.hid hj
    by_cases hlt : j < A.length
    · have la := at_any h j wr hB
      have la2 := at_any h (j + 1) wr hB
      rw [Int.natCast_add, show ((1 : Nat) : Int) = 1 from rfl] at la2
      have st := hat.step wa hr (by omega)
      obtain ⟨lx0, lx1⟩ := wa.getD j
      obtain ⟨lz0, lz1⟩ := wa.getD (j + 1)
      rw [hj] at st
      have hml : m ≤ 4194304 := by have := hat.1; omega
      generalize A.getD j 0 = x at la st lx0 lx1
      generalize A.getD (j + 1) 0 = y at la2 st lz0 lz1
      have hor := or_two_limbs ⟨lx0, lx1⟩ ⟨lz0, lz1⟩
      obtain ⟨T, hT⟩ : ∃ T, x + y * 4294967296 = T := ⟨_, rfl⟩
      rw [hT] at hor st
      obtain ⟨Y, hY⟩ : ∃ Y, T / 2 ^ r % 4294967296 = Y := ⟨_, rfl⟩
      rw [hY] at st
      have t0 : 0 ≤ T := by omega
      have t1 : T < 18446744073709551616 := by omega
      clear hT
      have hc : ∀ W : World, (W.alloc (.cells #[.int .u32 Y] 101)).cell? ⟨W.heap.size, 0, none⟩ = some (.int .u32 Y) := fun W => by rw [cell_of_row _ _ 0 _ _ (0, 0) (heap_new W _ _ rfl)]; rfl
      have hlen : ys.length + 1 ≤ 4294967296 := by omega
      have Hc := Lib.hid hc
      have Hlen := Lib.hid hlen
      have St := Lib.hid st
      have Hk := Lib.hid hk
      clear st hat hm hj hk hc hlen
      go_wp2_with (first | (go_at_call 122; (first | (with_reducible refine la.mono ?_) | (with_reducible refine la2.mono ?_)); rintro e W1 ⟨rfl, rfl⟩) | (at_builtin; obtain ⟨v', w', hrun, hown', hbel⟩ := app_one (P := Tryz.prog) (k := .u32) 47 Tryz.underlying47 info32 (by decide) (w := wr.alloc (.cells #[.int .u32 Y] 101)) (B := w.heap.size) (by have := hB.size; simp; omega) (hown.alloc _) (Hc.out wr) Hlen.out; refine Lib.wpList_append_run _ rfl _ _ _ _ rfl _ _ rfl rfl _ _ hrun ?_))
      exact ⟨⟨k + 1, ys ++ [Y], by have := Hj.out; go_num, .inr (by have := Hj.out; omega), St.out, hown', (hB.alloc hB.size _).trans hbel⟩, by simp [intOf]; omega⟩
    · have hd := hat.done (by omega)
      rw [Hfin.out] at hd
      have tr := trim_own hown hat.2.1 (by have := hat.1; omega)
      rw [hd] at tr
      clear hat hd hm hj hk
      go_wp2_with fail
      refine tr.mono ?_
      rintro e W1 ⟨⟨s, rfl, hs⟩, rfl⟩
      go_wp2_with fail
      go_ret
      exact ⟨s, rfl, hs, hB⟩

theorem num_limbs {w : World} {s : Value} {n : Int} {K : Nat} (h : IsNum w s n) (hn : n < lpw K) : ∃ A, Limbed w s A ∧ lval A = n ∧ A.length ≤ K := by
  obtain ⟨L, h1, h2, rfl⟩ := h
  exact ⟨L, h1, rfl, num_len h1 h2 hn⟩
theorem natShift_pos (s : Value) (n : Int) (k : Nat) (hk : k ≤ 33554432) (w : World) {K : Nat} (h : IsNum w s n) (hn : n < lpw K) (hK : K ≤ 1048576) :
    Calls Tryz.prog 93 #[s, .int .i64 k] w (RetNum (n * 2 ^ k) w) := by
  obtain ⟨A, h1, rfl, h2⟩ := num_limbs h hn
  have e : k = 32 * (k / 32) + k % 32 := by omega
  rw [e]
  exact natShift_up s A (k / 32) (k % 32) w h1 (by omega) (by omega) (by omega)
theorem natShift_neg (s : Value) (n : Int) (k : Nat) (hk1 : 1 ≤ k) (hk : k ≤ 33554432) (w : World) {K : Nat} (h : IsNum w s n) (hn : n < lpw K) (hK : K ≤ 1048576) :
    Calls Tryz.prog 93 #[s, .int .i64 (-k)] w (RetNum (n / 2 ^ k) w) := by
  obtain ⟨A, h1, rfl, h2⟩ := num_limbs h hn
  have e : k = 32 * (k / 32) + k % 32 := by omega
  rw [e]
  exact natShift_down s A (k / 32) (k % 32) w h1 (by omega) (by omega) (by omega) (by omega)
end Go.Proofs.YtogildikglomkaaGreatDoor

namespace Go.Proofs.YtogildikglomkaaGreatDoor
open Go.RowKit
set_option linter.unusedVariables false

theorem natOf_num (n : Int) (hn : Word n) (w : World) : Calls Tryz.prog 91 #[.int .u64 n] w (RetNum n w) := by
  refine (natOf_any n hn w).mono ?_
  rintro e w' ⟨⟨b, len, l, rfl, ha, hl, hw, h2, hz, hv⟩, hb⟩
  refine ⟨_, rfl, ?_, hb⟩
  rw [← hv]
  exact isNum_arr ha (by omega) (by omega) hw hz
theorem natBits_num (s : Value) (n : Int) (w : World) (h : IsNum w s n) : Calls Tryz.prog 92 #[s] w fun e w' => (∃ k : Nat, e = .returned (.int .i64 k) ∧ IsBits n k) ∧ w = w' := by
  obtain ⟨L, h1, h2, rfl⟩ := h
  rcases h1 with ⟨rfl, rfl⟩ | ⟨b, t, len, cap, l, rfl, ha, k1, k2, hw, rfl⟩
  · refine (natBits_zero none 0 w).mono ?_
    rintro e w' ⟨rfl, rfl⟩
    exact ⟨⟨0, rfl, isBits_zero⟩, rfl⟩
  · rcases len with _ | len
    · refine (natBits_zero _ cap w).mono ?_
      rintro e w' ⟨rfl, rfl⟩
      exact ⟨⟨0, rfl, by simpa [lval] using isBits_zero⟩, rfl⟩
    · refine (natBits_any b t len cap l w ha k1 (by omega) hw).mono ?_
      rintro e w' ⟨rfl, rfl⟩
      refine ⟨⟨_, rfl, ?_⟩, rfl⟩
      have hl : (l.take (len + 1)).length = len + 1 := by rw [List.length_take, Nat.min_eq_left k1]
      have hz := h2 (fun e => by rw [e] at hl; simp at hl)
      rw [hl, getD_take, if_pos (by omega), Nat.add_sub_cancel] at hz
      have hs := lseg_bd hw 0 len (by omega)
      have hwl := hw.getD len
      rw [← lseg_all, lseg_succ (by omega), Nat.zero_add]
      exact isBits_top (lpw_two len) hs.1 hs.2 hz (isBits_word ⟨hwl.1, by unfold Limb at hwl; omega⟩) hwl.1

theorem pow_le_lpw {X : Int} {K : Nat} (h0 : 0 ≤ X) (h : X < lpw K) : ∀ a : Nat, 0 ≤ X ^ a ∧ X ^ a ≤ lpw (K * a)
  | 0 => by simp [lpw]
  | a + 1 => by
    obtain ⟨g0, g1⟩ := pow_le_lpw h0 h a
    rw [Int.pow_succ, Nat.mul_succ, lpw_add]
    exact ⟨Int.mul_nonneg g0 h0, Int.mul_le_mul g1 (Int.le_of_lt h) h0 (Int.le_of_lt (lpw_pos _))⟩
theorem pow_lt_lpw {X : Int} {K M a : Nat} (h0 : 0 ≤ X) (h : X < lpw K) (hM : K * a < M) : X ^ a < lpw M := by
  have h1 := (pow_le_lpw h0 h a).2
  have h2 := lpw_mono (a := K * a + 1) (b := M) (by omega)
  have h3 := lpw_pos (K * a)
  simp only [lpw] at h2
  omega

theorem cmpI_le {a b : Int} : cmpI a b ≤ 0 ↔ a ≤ b := by
  unfold cmpI
  split
  · constructor <;> intro <;> omega
  · split <;> constructor <;> intro <;> omega
end Go.Proofs.YtogildikglomkaaGreatDoor
