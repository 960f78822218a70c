/- dice: Below. -/
import Derived.Test.YtgccgacpifebbaaDicA
import Derived.Deep.LoopGhost
namespace Go.Proofs.Ytgccgacpifebbaa
open Go.RowKit
set_option linter.unusedVariables false

/-- How many words on a state is 0. -/
def dsteps (s : Int) : Nat := (-(BitVec.ofInt 64 s * 17428512612931826493#64)).toNat
theorem dgrow_word (s : Int) : Word (dgrow s) := by
  unfold dgrow
  rw [IntKind.wrap_u64]
  constructor <;> omega
theorem dsteps_grow {s : Int} (hs : Word s) (h0 : s ≠ 0) : dsteps (dgrow s) < dsteps s := by
  obtain ⟨h1, h2⟩ := hs
  have eg : BitVec.ofInt 64 (dgrow s) = BitVec.ofInt 64 s + 11400714819323198485#64 := by
    apply BitVec.eq_of_toNat_eq
    unfold dgrow
    rw [IntKind.wrap_u64, BitVec.toNat_add, BitVec.toNat_ofInt, BitVec.toNat_ofInt]
    simp
    omega
  have ea : BitVec.ofInt 64 s ≠ 0#64 := by
    intro e
    have := congrArg BitVec.toNat e
    rw [BitVec.toNat_ofInt] at this
    simp at this
    omega
  unfold dsteps
  rw [eg]
  generalize BitVec.ofInt 64 s = a at ea
  have ec : 11400714819323198485#64 * 17428512612931826493#64 = 1#64 := by decide
  rw [BitVec.add_mul, ec]
  have ep : a * 17428512612931826493#64 ≠ 0#64 := by
    intro e
    apply ea
    have := congrArg (· * 11400714819323198485#64) e
    simp only [BitVec.mul_assoc, BitVec.mul_comm 17428512612931826493#64, ec, BitVec.mul_one, BitVec.zero_mul] at this
    exact this
  generalize a * 17428512612931826493#64 = p at ep
  have hp : p.toNat ≠ 0 := fun e => ep (BitVec.eq_of_toNat_eq e)
  have hl := p.isLt
  rw [BitVec.toNat_neg, BitVec.toNat_neg, BitVec.toNat_add]
  simp
  omega
theorem dtell_zero : dtell 0 = 0 := by decide +kernel
theorem dtell_word (g : Int) : Word (dtell g) := by
  unfold dtell dmix3
  generalize dmix2 (dmix1 g) = z
  show Word (IntKind.u64.wrap _)
  rw [IntKind.wrap_u64]
  constructor <;> omega
/-- From the state a, of which the word is told, on: the first state of which the word is fine is b. -/
inductive Fine (A : Int) : Int → Int → Prop
  | stop {t : Int} : ¬ 18446744073709551615 - dtell t < A → Fine A t t
  | more {t t' : Int} : 18446744073709551615 - dtell t < A → Fine A (dgrow t) t' → Fine A t t'
theorem Fine.unique {A t a b : Int} (h : Fine A t a) (k : Fine A t b) : a = b := by
  induction h with
  | stop h => cases k with
    | stop _ => rfl
    | more k _ => exact absurd k h
  | more h _ ih => cases k with
    | stop k => exact absurd h k
    | more _ k => exact ih k
theorem Fine.fine {A t a : Int} (h : Fine A t a) : ¬ 18446744073709551615 - dtell a < A := by
  induction h with
  | stop h => exact h
  | more _ _ ih => exact ih
theorem not_u64 {u : Int} (hu : Word u) : bits .xor .u64 IntKind.u64.max u = 18446744073709551615 - u := by
  obtain ⟨h1, h2⟩ := hu
  show IntKind.u64.wrap ((BitVec.ofInt 64 IntKind.u64.max ^^^ BitVec.ofInt 64 u).toNat : Int) = _
  have e : BitVec.ofInt 64 IntKind.u64.max = BitVec.allOnes 64 := by decide
  rw [e, BitVec.allOnes_xor, BitVec.toNat_not, BitVec.toNat_ofInt, IntKind.wrap_u64]
  omega
/-- How many words lie above the greatest multiple of n. -/
def dabove (n : Int) : Int := (IntKind.u64.wrap (-n)).tmod n
set_option maxRecDepth 100000 in
theorem even_any (b : Nat) (s n : Int) (hn : 1 ≤ n ∧ n ≤ 9223372036854775807) (w : World) (h : DBox w b s) : Calls Try.prog 47 #[.int .u64 n, .func (Fn.func 48) #[.pointer (some ⟨b, 0, none⟩)] #[]] w fun e w' => ∃ t, Fine (dabove n) (dgrow s) t ∧ e = .returned (.int .u64 (dtell t)) ∧ DBox w' b t ∧ w.grownBy w' (some b) := by
  have hz : (n == 0) = false := by simp; omega
  have hlt : dabove n < n := by
    unfold dabove
    exact Int.tmod_lt_of_pos _ (by omega)
  obtain ⟨A, hA⟩ : ∃ A, dabove n = A := ⟨_, rfl⟩
  have hA' : (IntKind.u64.wrap (-n)).tmod n = A := hA
  rw [hA] at hlt ⊢
  have Hlt := Lib.hid hlt
  clear hlt hA
  go_enter Try.func47, Try.ntmps47
  go_wp2_with fail
  refine (next_dice _ _ _ h).mono ?_
  rintro e w1 ⟨rfl, h1, g1⟩
  go_wp2_with fail
  go_loopg [6] (dsteps (dgrow s)) (fun g u wr => ∃ t, g = dsteps t ∧ u = .int .u64 (dtell t) ∧ Word t ∧ DBox wr b t ∧ w.grownBy wr (some b) ∧ ∀ t', Fine A t t' → Fine A (dgrow s) t')
  case atStart => exact ⟨_, rfl, rfl, dgrow_word _, h1, g1, fun _ h => h⟩
  case round =>
    obtain ⟨t, hg, rfl, ht, hd, hgr, hf⟩ := hrel
    have Hg := Lib.hid hg
    clear hg h h1 g1
    have hnu := not_u64 (dtell_word t)
    by_cases hb : 18446744073709551615 - dtell t < A
    · have hlt := dsteps_grow ht (fun e => by
        have := Hlt.out
        rw [e, dtell_zero] at hb
        omega)
      have hraw : bits .xor .u64 IntKind.u64.max (dtell t) < A := by rw [hnu]; exact hb
      clear hnu
      have hraw2 : bits .xor .u64 (if IntKind.u64.signed = true then -1 else IntKind.u64.max) (dtell t) < A := hraw
      go_wp2_with fail
      refine (next_dice _ _ _ hd).mono ?_
      rintro e w2 ⟨rfl, h2, g2⟩
      go_wp2_with fail
      go_roundg (dsteps (dgrow t))
      case measure => have := Hg.out; omega
      case rel => exact ⟨_, rfl, rfl, dgrow_word _, h2, grownBy_trans hgr g2, fun t' h => hf t' (.more hb h)⟩
    · have hraw : ¬ bits .xor .u64 IntKind.u64.max (dtell t) < A := by rw [hnu]; exact hb
      have hraw2 : ¬ bits .xor .u64 (if IntKind.u64.signed = true then -1 else IntKind.u64.max) (dtell t) < A := hraw
      clear hnu
      go_wp2_with fail
      go_ret
      exact ⟨t, hf t (.stop (Int.not_lt.2 hb)), rfl, hd, hgr⟩
/-- What Below tells: the remainder of the first fine word; the state behind it. -/
def Drawn (n s x t : Int) : Prop := Fine (dabove n) (dgrow s) t ∧ x = dtell t % n
theorem Drawn.unique {n s x t x' t' : Int} (h : Drawn n s x t) (k : Drawn n s x' t') : x = x' ∧ t = t' := by
  obtain ⟨h1, rfl⟩ := h
  obtain ⟨k1, rfl⟩ := k
  obtain rfl := h1.unique k1
  exact ⟨rfl, rfl⟩
theorem Drawn.range {n s x t : Int} (hn : 1 ≤ n) (h : Drawn n s x t) : 0 ≤ x ∧ x < n := by
  obtain ⟨_, rfl⟩ := h
  exact ⟨Int.emod_nonneg _ (by omega), Int.emod_lt_of_pos _ (by omega)⟩
set_option maxRecDepth 100000 in
theorem below_dice (b : Nat) (s n : Int) (hn : 1 ≤ n ∧ n ≤ 9223372036854775807) (w : World) (h : DBox w b s) : Calls Try.prog 38 #[.pointer (some ⟨b, 0, none⟩), .int .i64 n] w fun e w' => ∃ x t, Drawn n s x t ∧ e = .returned (.int .i64 x) ∧ DBox w' b t ∧ w.grownBy w' (some b) := by
  have hmf : ∀ (fn : Fn) (first cap : Array Value) (w : World), (Instr.makeFunc fn first cap).run Try.prog w = .ok (.func fn first cap) w := fun _ _ _ _ => rfl
  have h1 : ¬ n < 1 := by omega
  have h2 : IntKind.u64.wrap n = n := by rw [IntKind.wrap_u64]; omega
  have hz : (n == 0) = false := by simp; omega
  go_enter Try.func38, Try.ntmps38
  go_wp2_with fail
  refine (even_any b s n hn w h).mono ?_
  rintro e w1 ⟨t, hf, rfl, hd, hg⟩
  have e1 : (dtell t).tmod n = dtell t % n := Int.tmod_eq_emod_of_nonneg (dtell_word t).1
  have e2 : IntKind.i64.wrap (dtell t % n) = dtell t % n := by
    have := Int.emod_nonneg (dtell t) (show n ≠ 0 by omega)
    have := Int.emod_lt_of_pos (dtell t) (show 0 < n by omega)
    rw [IntKind.wrap_i64]
    omega
  go_wp2_with fail
  go_ret
  exact ⟨_, t, ⟨hf, rfl⟩, rfl, hd, hg⟩
end Go.Proofs.Ytgccgacpifebbaa
