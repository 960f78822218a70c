/- Contract of nat.FromBytes over what NatBytes answers. -/
import Derived.Test.YtjaepdjidfhamaaDoorFromW
namespace Go.Proofs.YtjaepdjidfhamaaDoor
open Go.RowKit
set_option linter.unusedVariables false

set_option maxRecDepth 100000 in
set_option maxHeartbeats 1000000 in
theorem from_zero (a : Option Addr) (cap : Nat) (w : World) :
    Calls Tryd.prog 66 #[.slice a 0 cap] w (RetNat 0 w) := by
  have hmk := make64 0 0 rfl (by omega)
  go_enter Tryd.func66, Tryd.ntmps66
  go_wp2_with fail
  refine (trimLeft_nil _ _ _).mono ?_
  rintro e w' ⟨rfl, rfl⟩
  go_wp2_with fail
  go_loopw [17] (fun i wr => i = .int .i64 0 ∧ Arr wr (w.heap.size + 1) 22 .u64 [] ∧ Below (w.heap.size + 1) (w.alloc (.cells #[.int .u64 0, .slice none 0 0] 25)) wr) (fun _ _ => 0)
  case atStart => exact ⟨rfl, Arr.zeros _ _ _ 0 _ (by simp), (Below.refl _ _).alloc (by simp) _⟩
  case round =>
    obtain ⟨rfl, hak, hB⟩ := hrel
    have vr := (Var.new w w.heap.size (.int .u64 0) none 0 0 rfl).below hB (by omega)
    have zr := hB.size
    rw [World.size_alloc] at zr
    have hBw : Below w.heap.size w wr := Below.trans (by go_grown) (hB.mono (by omega))
    go_wp2_with fail
    refine (made_any (w.heap.size + 1) 22 0 0 [] wr hak (Nat.le_refl _) (by simp) (by omega) Words.nil).mono ?_
    rintro e w1 ⟨v, rfl, hvn, hb1⟩
    obtain ⟨xa, xp, xl, xc, rfl⟩ := hvn.shape
    replace vr := vr.below hb1 (by omega)
    have c0 := vr.c0
    have c1 := vr.c1
    have f0 := vr.free 0
    have f1 := vr.free 1
    go_wp2
    exact bodyPost_var Tryd.results66 rfl rfl (vr.set _ _ _ _) (hvn.two vr _ _) (below_two (hBw.trans (hb1.mono (by omega))) (Nat.le_refl _) _ _)
/-- A number's highest byte is not 0. -/
theorem top_byte {n : Int} {k : Nat} (h : IsBits n (k + 1)) (hn : 0 ≤ n) : n < 256 ^ (k / 8 + 1) ∧ byteAt n (k / 8) ≠ 0 := by
  have h1 := h.1
  have h2 := h.2 (by omega)
  rw [Nat.add_sub_cancel] at h2
  have e1 : (256 : Int) ^ (k / 8) = 2 ^ (8 * (k / 8)) := by rw [two_256]
  have e2 : (256 : Int) ^ (k / 8 + 1) = 2 ^ (8 * (k / 8 + 1)) := by rw [two_256]
  have m1 := two_pow_mono (a := 8 * (k / 8)) (b := k) (by omega)
  have m2 := two_pow_mono (a := k + 1) (b := 8 * (k / 8 + 1)) (by omega)
  refine ⟨by omega, ?_⟩
  have hp : (0 : Int) < 256 ^ (k / 8) := Int.pow_pos (by decide)
  have b1 : 1 ≤ n / 256 ^ (k / 8) := by
    rw [Int.le_ediv_iff_mul_le hp]; omega
  have b2 : n / 256 ^ (k / 8) < 256 := by
    rw [Int.ediv_lt_iff_lt_mul hp]
    rw [Int.pow_succ] at e2
    omega
  unfold byteAt
  omega
theorem from_of (b t m cap k : Nat) (n : Int) (w : World) (ha : Arr w b t .u8 (be n m)) (hm : m = (k + 7) / 8) (hk : IsBits n k) (hn : 0 ≤ n) (hle : m ≤ 401) :
    Calls Tryd.prog 66 #[.slice (some ⟨b, 0, none⟩) m cap] w (RetNat n w) := by
  match k with
  | 0 =>
    obtain rfl : m = 0 := by omega
    have h1 := hk.1
    obtain rfl : n = 0 := by simp at h1; omega
    exact from_zero _ _ _
  | k + 1 =>
    obtain ⟨h1, h2⟩ := top_byte hk hn
    obtain rfl : m = k / 8 + 1 := by omega
    exact from_pos b t cap (k / 8) n w ha (by omega) hn h1 h2
end Go.Proofs.YtjaepdjidfhamaaDoor
