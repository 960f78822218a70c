/- Contracts of the document's NatPow and NatRoot. -/
import Derived.Test.YtjoppmkknbpjbaaGreatDoorRefShift
import Derived.Test.YtjoppmkknbpjbaaGreatDoorCloneAt
import Derived.Deep.LoopGhost
namespace Go.Proofs.YtjoppmkknbpjbaaGreatDoor
open Go.RowKit
set_option linter.unusedVariables false

theorem natOf_num (n : Int) (hn : Word n) (w : World) : Calls Tryz.prog 26 #[.int .u64 n] w (RetNum n w) := by
  refine (natOf_any n hn w).mono ?_
  rintro e w' ⟨⟨b, len, l, rfl, ha, hl, hw, h2, hz, hv⟩, hb⟩
  refine ⟨_, rfl, ?_, hb⟩
  rw [← hv]
  exact isNum_arr ha (by omega) (by omega) hw hz
theorem natBits_num (s : Value) (n : Int) (w : World) (h : IsNum w s n) : Calls Tryz.prog 12 #[s] w fun e w' => (∃ k : Nat, e = .returned (.int .i64 k) ∧ IsBits n k) ∧ w = w' := by
  obtain ⟨L, h1, h2, rfl⟩ := h
  rcases h1 with ⟨rfl, rfl⟩ | ⟨b, t, len, cap, l, rfl, ha, k1, k2, hw, rfl⟩
  · refine (natBits_zero none 0 w).mono ?_
    rintro e w' ⟨rfl, rfl⟩
    exact ⟨⟨0, rfl, isBits_zero⟩, rfl⟩
  · rcases len with _ | len
    · refine (natBits_zero _ cap w).mono ?_
      rintro e w' ⟨rfl, rfl⟩
      exact ⟨⟨0, rfl, by simpa [lval] using isBits_zero⟩, rfl⟩
    · refine (natBits_any b t len cap l w ha k1 (by omega) hw).mono ?_
      rintro e w' ⟨rfl, rfl⟩
      refine ⟨⟨_, rfl, ?_⟩, rfl⟩
      have hl : (l.take (len + 1)).length = len + 1 := by rw [List.length_take, Nat.min_eq_left k1]
      have hz := h2 (fun e => by rw [e] at hl; simp at hl)
      rw [hl, getD_take, if_pos (by omega), Nat.add_sub_cancel] at hz
      have hs := lseg_bd hw 0 len (by omega)
      have hwl := hw.getD len
      rw [← lseg_all, lseg_succ (by omega), Nat.zero_add]
      exact isBits_top (lpw_two len) hs.1 hs.2 hz (isBits_word ⟨hwl.1, by unfold Limb at hwl; omega⟩) hwl.1

theorem pow_le_lpw {X : Int} {K : Nat} (h0 : 0 ≤ X) (h : X < lpw K) : ∀ a : Nat, 0 ≤ X ^ a ∧ X ^ a ≤ lpw (K * a)
  | 0 => by simp [lpw]
  | a + 1 => by
    obtain ⟨g0, g1⟩ := pow_le_lpw h0 h a
    rw [Int.pow_succ, Nat.mul_succ, lpw_add]
    exact ⟨Int.mul_nonneg g0 h0, Int.mul_le_mul g1 (Int.le_of_lt h) h0 (Int.le_of_lt (lpw_pos _))⟩
theorem pow_lt_lpw {X : Int} {K M a : Nat} (h0 : 0 ≤ X) (h : X < lpw K) (hM : K * a < M) : X ^ a < lpw M := by
  have h1 := (pow_le_lpw h0 h a).2
  have h2 := lpw_mono (a := K * a + 1) (b := M) (by omega)
  have h3 := lpw_pos (K * a)
  simp only [lpw] at h2
  omega

theorem cmpI_le {a b : Int} : cmpI a b ≤ 0 ↔ a ≤ b := by
  unfold cmpI
  split
  · constructor <;> intro <;> omega
  · split <;> constructor <;> intro <;> omega
end Go.Proofs.YtjoppmkknbpjbaaGreatDoor
