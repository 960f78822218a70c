/- Contracts of the leaves of package octet: what only reads bytes: isLast, Sum, word, cut. -/
import Derived.Test.YtkggglhnhlclmaaDoorFewBs
import Derived.Deep.LoopGhost
namespace Go.Proofs.YtkggglhnhlclmaaDoor
open Go.RowKit
set_option linter.unusedVariables false

theorem isLast_any (c : Int) (w : World) : Calls Tryd.prog 33 #[.int .u8 c] w fun e w' => e = .returned (.bool (decide (c < 128))) ∧ w = w' := by
  go_enter Tryd.func33, Tryd.ntmps33
  go_wp2
  go_ret
  exact ⟨rfl, rfl⟩
theorem octet_u64 {x : Int} (h : 0 ≤ x ∧ x < 256) : IntKind.u64.wrap x = x := by rw [IntKind.wrap_u64]; omega
set_option maxRecDepth 100000 in
theorem sum_bs (v : Value) (l : List Int) (w : World) (h : Bs w v l) : Calls Tryd.prog 9 #[v] w fun e w' => e = .returned (.int .u64 (fnv f0 l)) ∧ w = w' := by
  obtain ⟨p, c, rfl, h1, h2, ho, h4⟩ := h
  obtain ⟨len, hlen⟩ : ∃ len, l.length = len := ⟨_, rfl⟩
  rw [hlen] at h1 h2 h4 ⊢
  go_enter Tryd.func9, Tryd.ntmps9
  go_wp2_with fail
  go_loopg [3, 8] len (fun g s i wr => ∃ k : Nat, g = len - k ∧ k ≤ len ∧ s = .int .u64 (fnv f0 (l.take k)) ∧ i = .int .i64 k ∧ w = wr)
  case atStart => exact ⟨0, rfl, Nat.zero_le _, rfl, rfl, rfl⟩
  case round =>
    obtain ⟨k, hg, hk, rfl, rfl, rfl⟩ := hrel
    have Hg := Lib.hid hg
    clear hg
    by_cases hlt : k < len
    · obtain ⟨g, off, rfl, hc⟩ := h4 (by omega)
      have hx := hc k hlt
      have ox := ho.getD k
      have hs := fnv_snoc (h := f0) (l := l) (k := k) (by omega)
      obtain ⟨x, hxx⟩ : ∃ x, l.getD k 0 = x := ⟨_, rfl⟩
      rw [hxx] at hx ox hs
      have w64 := octet_u64 ox
      obtain ⟨s, hss⟩ : ∃ s, fnv f0 (l.take k) = s := ⟨_, rfl⟩
      rw [hss] at hs ⊢
      have Hs := Lib.hid hs
      clear hs hss hxx hc h4
      go_wp2_with fail
      go_roundg (len - (k + 1))
      case measure => have := Hg.out; omega
      case rel => exact ⟨k + 1, rfl, by omega, by rw [Hs.out]; rfl, by go_num, rfl⟩
    · obtain rfl : k = len := by omega
      rw [← hlen, List.take_length]
      clear h4
      go_wp2_with fail
      go_ret
      exact ⟨rfl, rfl⟩
/-- A word moved up by a byte, and a byte. -/
theorem or_up {n c : Int} (hn : 0 ≤ n ∧ n < 2 ^ 56) (hc : 0 ≤ c ∧ c < 256) : bits .or .u64 (IntKind.u64.wrap (n * 256)) c = n * 256 + c := by
  obtain ⟨N, rfl⟩ := Int.eq_ofNat_of_zero_le hn.1
  obtain ⟨C, rfl⟩ := Int.eq_ofNat_of_zero_le hc.1
  have e1 : IntKind.u64.wrap ((N : Int) * 256) = ((N * 256 : Nat) : Int) := by rw [IntKind.wrap_u64]; omega
  rw [e1]
  show IntKind.u64.wrap ((BitVec.ofInt 64 ((N * 256 : Nat) : Int) ||| BitVec.ofInt 64 (C : Int)).toNat : Int) = _
  rw [BitVec.toNat_or, BitVec.ofInt_natCast, BitVec.ofInt_natCast, BitVec.toNat_ofNat, BitVec.toNat_ofNat, Nat.mod_eq_of_lt (by omega), Nat.mod_eq_of_lt (by omega), show N * 256 = 2 ^ 8 * N by omega, ← Nat.two_pow_add_eq_or_of_lt (by omega), IntKind.wrap_u64]
  omega
theorem deb_bd : ∀ {l : List Int} {k : Nat}, Octs l → k ≤ l.length → 0 ≤ deb (l.take k) ∧ deb (l.take k) < 256 ^ k
  | l, 0, _, _ => by simp [deb]
  | l, k + 1, ho, hk => by
    obtain ⟨h1, h2⟩ := deb_bd (l := l) (k := k) ho (by omega)
    have hx := ho.getD k
    have e : deb (l.take (k + 1)) = deb (l.take k) * 256 + l.getD k 0 := by
      unfold deb
      rw [take_snoc l k 0 (by omega), List.foldl_append]
      rfl
    rw [e, Int.pow_succ]
    constructor <;> omega
set_option maxRecDepth 100000 in
theorem word_bs (v : Value) (l : List Int) (w : World) (h : Bs w v l) (h8 : l.length = 8) : Calls Tryd.prog 19 #[v] w fun e w' => e = .returned (.int .u64 (deb l)) ∧ w = w' := by
  obtain ⟨p, c, rfl, h1, h2, ho, h4⟩ := h
  rw [h8] at h1 h2 h4 ⊢
  go_enter Tryd.func19, Tryd.ntmps19
  go_wp2_with fail
  go_loopg [3, 8] 8 (fun g s i wr => ∃ k : Nat, g = 8 - k ∧ k ≤ 8 ∧ s = .int .u64 (deb (l.take k)) ∧ i = .int .i64 k ∧ w = wr)
  case atStart => exact ⟨0, rfl, Nat.zero_le _, rfl, rfl, rfl⟩
  case round =>
    obtain ⟨k, hg, hk, rfl, rfl, rfl⟩ := hrel
    have Hg := Lib.hid hg
    clear hg
    by_cases hlt : k < 8
    · obtain ⟨g, off, rfl, hc⟩ := h4 (by omega)
      have hx := hc k hlt
      have ox := ho.getD k
      obtain ⟨b1, b2⟩ := deb_bd (l := l) (k := k) ho (by omega)
      have e : deb (l.take (k + 1)) = deb (l.take k) * 256 + l.getD k 0 := by
        unfold deb
        rw [take_snoc l k 0 (by omega), List.foldl_append]
        rfl
      have b3 : (256 : Int) ^ k ≤ 2 ^ 56 := by
        have : (256 : Int) ^ k = 2 ^ (8 * k) := by rw [Int.pow_mul]; rfl
        rw [this]
        have h3 := Nat.pow_le_pow_right (n := 2) (by decide) (show 8 * k ≤ 56 by omega)
        exact_mod_cast h3
      obtain ⟨x, hxx⟩ : ∃ x, l.getD k 0 = x := ⟨_, rfl⟩
      obtain ⟨s, hss⟩ : ∃ s, deb (l.take k) = s := ⟨_, rfl⟩
      rw [hss] at b1 b2 e ⊢
      rw [hxx] at hx ox e
      have w64 := octet_u64 ox
      have hor := or_up ⟨b1, by omega⟩ ox
      have He := Lib.hid e
      have Hor := Lib.hid hor
      clear e hss hxx hc h4 b1 b2 b3 hor
      go_wp2_with fail
      go_roundg (8 - (k + 1))
      case measure => have := Hg.out; omega
      case rel => exact ⟨k + 1, rfl, by omega, by rw [He.out, ← Hor.out], by go_num, rfl⟩
    · obtain rfl : k = 8 := by omega
      rw [List.take_of_length_le (Nat.le_of_eq h8)]
      clear h4
      go_wp2_with fail
      go_ret
      exact ⟨rfl, rfl⟩
/-- Bytes, parted behind the first n. -/
theorem cut_bs (v : Value) (l : List Int) (n : Nat) (hn : n ≤ l.length) (w : World) (h : Bs w v l) : Calls Tryd.prog 18 #[v, .int .i64 n] w fun e w' => (∃ v1 v2, e = .returned (.tuple #[v1, v2]) ∧ Bs w v1 (l.take n) ∧ Bs w v2 (l.drop n)) ∧ Below w.heap.size w w' := by
  obtain ⟨p, c, rfl, h1, h2, ho, h4⟩ := h
  obtain ⟨len, hlen⟩ : ∃ len, l.length = len := ⟨_, rfl⟩
  rw [hlen] at h1 h2 h4 hn ⊢
  have a1 : (n : Int) ≤ (c : Int) := by omega
  have a2 : n ≤ c := by omega
  have a3 : (n : Int) ≤ (len : Int) := by omega
  go_enter Tryd.func18, Tryd.ntmps18
  go_wp2_with fail
  go_region
  obtain ⟨q, hq⟩ : ∃ q, (if c = n then p else Option.map (fun x : Addr => x.add n) p) = q := ⟨_, rfl⟩
  rw [hq]
  have Hq := Lib.hid hq
  clear hq
  go_wp2
  go_ret2
  have et : (l.take n).length = n := by rw [List.length_take]; omega
  have ed : (l.drop n).length = len - n := by rw [List.length_drop]; omega
  refine ⟨⟨.slice p n n, .slice q (len - n) (c - n), rfl, ⟨p, n, by rw [et], by omega, by omega, ho.take n, fun h0 => ?_⟩, ⟨q, c - n, by rw [ed], by omega, by omega, ho.drop n, fun h0 => ?_⟩⟩, (Below.refl _ w).drew⟩
  · obtain ⟨g, off, rfl, hc⟩ := h4 (by omega)
    refine ⟨g, off, rfl, fun j hj => ?_⟩
    rw [hc j (by omega), List.getD_eq_getElem?_getD, List.getD_eq_getElem?_getD, List.getElem?_take_of_lt (by omega)]
  · obtain ⟨g, off, rfl, hc⟩ := h4 (by omega)
    refine ⟨g, off + n, ?_, fun j hj => ?_⟩
    · rw [← Hq.out, if_neg (by omega)]
      show some ((⟨g, off, none⟩ : Addr).add n) = _
      unfold Addr.add
      split <;> simp_all
    · rw [Nat.add_assoc, hc (n + j) (by omega), List.getD_eq_getElem?_getD, List.getD_eq_getElem?_getD, List.getElem?_drop]
end Go.Proofs.YtkggglhnhlclmaaDoor
