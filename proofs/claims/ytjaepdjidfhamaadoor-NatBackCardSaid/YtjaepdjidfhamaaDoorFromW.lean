/- Contract of nat.FromBytes over the bytes of a number. -/
import Derived.Test.YtjaepdjidfhamaaDoorFromMath
import Derived.Test.YtjaepdjidfhamaaDoorTwo
namespace Go.Proofs.YtjaepdjidfhamaaDoor
open Go.RowKit
set_option linter.unusedVariables false

set_option maxRecDepth 100000 in
set_option maxHeartbeats 1000000 in
theorem from_pos (b t cap len : Nat) (n : Int) (w : World) (ha : Arr w b t .u8 (be n (len + 1))) (hm : len ≤ 400) (hn : 0 ≤ n) (hlt : n < 256 ^ (len + 1)) (hz : byteAt n len ≠ 0) :
    Calls Tryd.prog 66 #[.slice (some ⟨b, 0, none⟩) (len + 1) cap] w (RetNat n w) := by
  obtain ⟨L, hL⟩ : ∃ L, (len + 1 + 7) / 8 = L := ⟨_, rfl⟩
  have hi : (((len : Int) + 1 + 8 - 1) / 8) = (L : Int) := by omega
  have hmk := make64 L L rfl (by omega)
  have k1 := ha.lt
  have hle : (be n (len + 1)).length = len + 1 := be_length _ _
  have hz0 : (be n (len + 1)).getD 0 0 ≠ 0 := by rw [be_getD _ _ _ (by omega)]; exact hz
  have h00 := fromAt_zero (L := L) hn hlt
  have H00 := Lib.hid h00
  have Hn := Lib.hid hn
  have HL := Lib.hid hL
  have Hle := Lib.hid hle
  clear h00 hn hlt hz hL hle
  go_enter Tryd.func66, Tryd.ntmps66
  go_wp2_with fail
  refine (trimLeft_top b t len cap _ _ (ha.alloc _) (by rw [Hle.out]; omega) hz0).mono ?_
  rintro e w' ⟨rfl, rfl⟩
  go_wp2_with fail
  go_loopw [17] (fun i wr => ∃ (k : Nat) (lk : List Int), k ≤ len + 1 ∧ i = .int .i64 k ∧ FromAt n (len + 1) k L lk ∧ Arr wr (w.heap.size + 1) 22 .u64 lk ∧ Below (w.heap.size + 1) (w.alloc (.cells #[.int .u64 0, .slice none 0 0] 25)) wr) (fun i _ => len + 1 - (intOf i).toNat)
  case atStart => exact ⟨0, _, Nat.zero_le _, rfl, H00.out, Arr.zeros _ _ _ L _ (by simp), (Below.refl _ _).alloc (by simp) _⟩
  case round =>
    obtain ⟨k, lk, hk, rfl, hat, hak, hB⟩ := hrel
    by_cases hlt : k < len + 1
    · obtain ⟨p, hp⟩ : ∃ p : Nat, len - k = p := ⟨_, rfl⟩
      have hpi : (len : Int) - k = p := by omega
      have hst := hat.step Hn.out hlt HL.out
      have hlen := hat.1
      have hwk := hat.2.1.getD (p / 8)
      have hr := Nat.mod_lt p (show 8 > 0 by decide)
      have hb := byteAt_bd n p
      have hq : p / 8 < L := by have := HL.out; omega
      have hcx := ((ha.alloc _).below hB (by omega)).cell k (by rw [Hle.out]; omega)
      rw [be_getD _ _ _ hlt] at hcx
      rw [show len + 1 - 1 - k = p by omega] at hst hcx
      have hqi : (p : Int) / 8 = ((p / 8 : Nat) : Int) := by omega
      have hri : (p : Int) % 8 = ((p % 8 : Nat) : Int) := by omega
      generalize p / 8 = q at hst hwk hq hqi
      generalize p % 8 = r at hst hr hri
      have hco := hak.cell q (by omega)
      have hfo := hak.free q
      obtain ⟨hmod, hst⟩ := hst
      obtain ⟨x, hx⟩ : ∃ x, lk.getD q 0 = x := ⟨_, rfl⟩
      obtain ⟨c, hc⟩ : ∃ c, byteAt n p = c := ⟨_, rfl⟩
      rw [hx] at hwk hmod hst hco
      rw [hc] at hb hst hcx
      have hor := or_byte hr hwk hmod hb.1 hb.2
      have hq0 : (0 : Int) ≤ (q : Int) := by omega
      have hqL : (q : Int) < (L : Int) := by omega
      have hr0 : (0 : Int) ≤ (r : Int) * 8 := by omega
      have hr8 : (r : Int) * 8 < 64 := by omega
      have St := Lib.hid hst
      have Hor := Lib.hid hor
      have Hp := Lib.hid hp
      have Hlen := Lib.hid hlen
      have Hwk := Lib.hid hwk
      have Hmod := Lib.hid hmod
      clear hst hor hp hlen hx hc hat hwk hmod
      go_wp2_with fail
      go_region
      rw [Hor.out]
      go_wp2
      exact ⟨⟨k + 1, _, by omega, by go_num, St.out, hak.set _ _, (hB.setCell (p := ⟨w.heap.size + 1, q, none⟩) (Nat.le_refl _) _).drew⟩, by simp [intOf]; omega⟩
    · obtain rfl : k = len + 1 := by omega
      have hv := hat.done
      have hlen := hat.1
      have hwk := hat.2.1
      have vr := (Var.new w w.heap.size (.int .u64 0) none 0 0 rfl).below hB (by omega)
      have zr := hB.size
      rw [World.size_alloc] at zr
      have hBw : Below w.heap.size w wr := Below.trans (by go_grown) (hB.mono (by omega))
      clear hat
      go_wp2_with fail
      refine (made_any (w.heap.size + 1) 22 L L lk wr hak (Nat.le_refl _) (by omega) (by have := HL.out; omega) hwk).mono ?_
      rintro e w1 ⟨v, rfl, hvn, hb1⟩
      obtain ⟨xa, xp, xl, xc, rfl⟩ := hvn.shape
      rw [List.take_of_length_le (by omega), hv] at hvn
      replace vr := vr.below hb1 (by omega)
      have c0 := vr.c0
      have c1 := vr.c1
      have f0 := vr.free 0
      have f1 := vr.free 1
      go_wp2
      exact bodyPost_var Tryd.results66 rfl rfl (vr.set _ _ _ _) (hvn.two vr _ _) (below_two (hBw.trans (hb1.mono (by omega))) (Nat.le_refl _) _ _)
end Go.Proofs.YtjaepdjidfhamaaDoor
