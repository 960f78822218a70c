/- Contracts of the leaves of package octet: what only reads bytes: isLast, Sum, word, cut. -/
import Derived.Test.YtikoaihbpdcofaaFewBs
import Derived.Deep.LoopGhost
namespace Go.Proofs.Ytikoaihbpdcofaa
open Go.RowKit
set_option linter.unusedVariables false

theorem octet_u64 {x : Int} (h : 0 ≤ x ∧ x < 256) : IntKind.u64.wrap x = x := by rw [IntKind.wrap_u64]; omega
set_option maxRecDepth 100000 in
theorem sum_bs (v : Value) (l : List Int) (w : World) (h : Bs w v l) : Calls Try.prog 14 #[v] w fun e w' => e = .returned (.int .u64 (fnv f0 l)) ∧ w = w' := by
  obtain ⟨p, c, rfl, h1, h2, ho, h4⟩ := h
  obtain ⟨len, hlen⟩ : ∃ len, l.length = len := ⟨_, rfl⟩
  rw [hlen] at h1 h2 h4 ⊢
  go_enter Try.func14, Try.ntmps14
  go_wp2_with fail
  go_loopg [3, 8] len (fun g s i wr => ∃ k : Nat, g = len - k ∧ k ≤ len ∧ s = .int .u64 (fnv f0 (l.take k)) ∧ i = .int .i64 k ∧ w = wr)
  case atStart => exact ⟨0, rfl, Nat.zero_le _, rfl, rfl, rfl⟩
  case round =>
    obtain ⟨k, hg, hk, rfl, rfl, rfl⟩ := hrel
    have Hg := Lib.hid hg
    clear hg
    by_cases hlt : k < len
    · obtain ⟨g, off, rfl, hc⟩ := h4 (by omega)
      have hx := hc k hlt
      have ox := ho.getD k
      have hs := fnv_snoc (h := f0) (l := l) (k := k) (by omega)
      obtain ⟨x, hxx⟩ : ∃ x, l.getD k 0 = x := ⟨_, rfl⟩
      rw [hxx] at hx ox hs
      have w64 := octet_u64 ox
      obtain ⟨s, hss⟩ : ∃ s, fnv f0 (l.take k) = s := ⟨_, rfl⟩
      rw [hss] at hs ⊢
      have Hs := Lib.hid hs
      clear hs hss hxx hc h4
      go_wp2_with fail
      go_roundg (len - (k + 1))
      case measure => have := Hg.out; omega
      case rel => exact ⟨k + 1, rfl, by omega, by rw [Hs.out]; rfl, by go_num, rfl⟩
    · obtain rfl : k = len := by omega
      rw [← hlen, List.take_length]
      clear h4
      go_wp2_with fail
      go_ret
      exact ⟨rfl, rfl⟩
/-- A word moved up by a byte, and a byte. -/
theorem or_up {n c : Int} (hn : 0 ≤ n ∧ n < 2 ^ 56) (hc : 0 ≤ c ∧ c < 256) : bits .or .u64 (IntKind.u64.wrap (n * 256)) c = n * 256 + c := by
  obtain ⟨N, rfl⟩ := Int.eq_ofNat_of_zero_le hn.1
  obtain ⟨C, rfl⟩ := Int.eq_ofNat_of_zero_le hc.1
  have e1 : IntKind.u64.wrap ((N : Int) * 256) = ((N * 256 : Nat) : Int) := by rw [IntKind.wrap_u64]; omega
  rw [e1]
  show IntKind.u64.wrap ((BitVec.ofInt 64 ((N * 256 : Nat) : Int) ||| BitVec.ofInt 64 (C : Int)).toNat : Int) = _
  rw [BitVec.toNat_or, BitVec.ofInt_natCast, BitVec.ofInt_natCast, BitVec.toNat_ofNat, BitVec.toNat_ofNat, Nat.mod_eq_of_lt (by omega), Nat.mod_eq_of_lt (by omega), show N * 256 = 2 ^ 8 * N by omega, ← Nat.two_pow_add_eq_or_of_lt (by omega), IntKind.wrap_u64]
  omega
theorem deb_bd : ∀ {l : List Int} {k : Nat}, Octs l → k ≤ l.length → 0 ≤ deb (l.take k) ∧ deb (l.take k) < 256 ^ k
  | l, 0, _, _ => by simp [deb]
  | l, k + 1, ho, hk => by
    obtain ⟨h1, h2⟩ := deb_bd (l := l) (k := k) ho (by omega)
    have hx := ho.getD k
    have e : deb (l.take (k + 1)) = deb (l.take k) * 256 + l.getD k 0 := by
      unfold deb
      rw [take_snoc l k 0 (by omega), List.foldl_append]
      rfl
    rw [e, Int.pow_succ]
    constructor <;> omega
end Go.Proofs.Ytikoaihbpdcofaa
