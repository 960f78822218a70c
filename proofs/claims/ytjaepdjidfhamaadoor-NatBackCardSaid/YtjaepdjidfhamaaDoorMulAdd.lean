/- Contract of nat.mulAdd: one word times another, and one more. -/
import Derived.Test.YtjaepdjidfhamaaDoorAddTo
import Derived.Test.YtjaepdjidfhamaaDoorMem
namespace Go.Proofs.YtjaepdjidfhamaaDoor
open Go.RowKit
set_option linter.unusedVariables false

def mulLo (x y e : Int) : Int := (x * y + e) % 18446744073709551616
def mulHi (x y e : Int) : Int := (x * y + e) / 18446744073709551616
theorem mul_eq (x y e : Int) : mulLo x y e + 18446744073709551616 * mulHi x y e = x * y + e := by unfold mulLo mulHi; omega
theorem mulLo_word (x y e : Int) : Word (mulLo x y e) := by unfold mulLo Word; omega
theorem mul_bd {x y : Int} (hx : Word x) (hy : Word y) : 0 ≤ x * y ∧ x * y ≤ 18446744073709551615 * 18446744073709551615 := by
  unfold Word at hx hy
  exact ⟨Int.mul_nonneg hx.1 hy.1, Int.mul_le_mul (by omega) (by omega) hy.1 (by decide)⟩
theorem mulHi_word {x y e : Int} (hx : Word x) (hy : Word y) (he : Word e) : Word (mulHi x y e) := by
  have := mul_bd hx hy
  unfold mulHi
  generalize x * y = p at *
  unfold Word at he ⊢
  omega
theorem mul64_any (x y : Int) (hx : Word x) (hy : Word y) (w : World) :
    Calls Tryd.prog 44 #[.int .u64 x, .int .u64 y] w fun e w' => e = .returned (.tuple #[.int .u64 (mulHi x y 0), .int .u64 (mulLo x y 0)]) ∧ w = w' := by
  obtain ⟨X, rfl⟩ := Int.eq_ofNat_of_zero_le hx.1
  obtain ⟨Y, rfl⟩ := Int.eq_ofNat_of_zero_le hy.1
  refine (Tryd.bits_Mul64 X Y (by have := hx.2; omega) (by have := hy.2; omega) w).mono ?_
  rintro e w' ⟨rfl, rfl⟩
  refine ⟨?_, rfl⟩
  unfold mulHi mulLo
  congr 5 <;> simp
theorem mulAdd_any (x y z : Int) (hx : Word x) (hy : Word y) (hz : Word z) (w : World) :
    Calls Tryd.prog 82 #[.int .u64 x, .int .u64 y, .int .u64 z] w fun e w' => e = .returned (.tuple #[.int .u64 (mulHi x y z), .int .u64 (mulLo x y z)]) ∧ w = w' := by
  have ml := mulLo_word x y 0
  have mh := mulHi_word hx hy (e := 0) ⟨by decide, by decide⟩
  have m64 := mul64_any x y hx hy
  have he := mul_eq x y 0
  have h1 : mulLo x y z = addLo (mulLo x y 0) z 0 := by
    unfold addLo mulLo; omega
  have h2 : mulHi x y z = IntKind.u64.wrap (mulHi x y 0 + addHi (mulLo x y 0) z 0) := by
    have hw := mulHi_word hx hy hz
    have he2 := mul_eq x y z
    have he3 := add_eq (mulLo x y 0) z 0
    rw [← h1] at he3
    have : mulHi x y z = mulHi x y 0 + addHi (mulLo x y 0) z 0 := by omega
    rw [← this, IntKind.wrap_u64]
    unfold Word at hw
    omega
  rw [h1, h2]
  have hs := add64' _ z 0 ml hz (.inl rfl)
  generalize addLo (mulLo x y 0) z 0 = a at *
  generalize addHi (mulLo x y 0) z 0 = b at *
  generalize mulLo x y 0 = lo at *
  generalize mulHi x y 0 = hi at *
  clear h1 h2 he ml mh
  have M := Lib.hid m64
  clear m64
  go_enter Tryd.func82, Tryd.ntmps82
  go_wp2_with fail
  refine (M.out _).mono ?_
  rintro e w' ⟨rfl, rfl⟩
  go_wp2_with fail
  go_ret2
  exact ⟨rfl, rfl⟩
end Go.Proofs.YtjaepdjidfhamaaDoor
