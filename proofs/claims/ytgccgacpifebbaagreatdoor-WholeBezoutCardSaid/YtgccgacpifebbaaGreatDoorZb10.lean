/- From -/
import Derived.Test.YtgccgacpifebbaaGreatDoorZb09
import Derived.Test.YtgccgacpifebbaaGreatDoorZb06
import Derived.Test.YtgccgacpifebbaaGreatDoorZb08
namespace Go.Proofs.YtgccgacpifebbaaGreatDoor
open Go.RowKit
set_option linter.unusedVariables false
set_option maxRecDepth 100000 in
theorem trimLeftByte_top (b t len cap : Nat) (l : List Int) (w : World) (ha : Arr w b t .u8 l) (hl : len + 1 ≤ l.length) (hz : l.getD 0 0 ≠ 0) :
    Calls Tryz.prog 120 #[.slice (some ⟨b,0,none⟩) (len + 1) cap,.int .u8 0] w fun e w' => e = .returned (.slice (some ⟨b,0,none⟩) (len + 1) cap) ∧ w = w' := by
  have hc := ha.cell 0 (by omega)
  generalize l.getD 0 0 = x at hc hz
  have hx : (x == 0) = false := by simpa using hz
  have h0 : ((len : Int) + 1 == 0) = false := by simp; omega
  go_enter Tryz.func120,Tryz.ntmps120
  go_wp2
  go_rounds 1
  go_ret
  exact ⟨rfl,rfl⟩
set_option maxRecDepth 100000 in
theorem trimLeft_top (b t len cap : Nat) (l : List Int) (w : World) (ha : Arr w b t .u8 l) (hl : len + 1 ≤ l.length) (hz : l.getD 0 0 ≠ 0) :
    Calls Tryz.prog 94 #[.slice (some ⟨b,0,none⟩) (len + 1) cap,.string ⟨#[0]⟩] w fun e w' => e = .returned (.slice (some ⟨b,0,none⟩) (len + 1) cap) ∧ w = w' := by
  have h0 : ((len : Int) + 1 == 0) = false := by simp; omega
  go_enter Tryz.func94,Tryz.ntmps94
  go_wp2_with (go_at_call 120; refine (trimLeftByte_top b t len cap l w ha hl hz).mono ?_; rintro e w' ⟨rfl,rfl⟩)
  go_ret
  exact ⟨rfl,rfl⟩
theorem trimLeft_nil (a : Option Addr) (cap : Nat) (w : World) :
    Calls Tryz.prog 94 #[.slice a 0 cap,.string ⟨#[0]⟩] w fun e w' => e = .returned (.slice none 0 0) ∧ w = w' := by
  go_enter Tryz.func94,Tryz.ntmps94
  go_wp2
  go_ret
  exact ⟨rfl,rfl⟩
end Go.Proofs.YtgccgacpifebbaaGreatDoor
namespace Go.Proofs.YtgccgacpifebbaaGreatDoor
open Go.RowKit
set_option linter.unusedVariables false
theorem val_set : ∀ {l : List Int} {q : Nat},q < l.length → ∀ x : Int,val (l.set q x) = val l + pw q * (x - l.getD q 0)
  | [],_,h,_ => by simp at h
  | y :: l,0,_,x => by simp [val,pw]; omega
  | y :: l,q + 1,h,x => by
    have ih := val_set (l := l) (q := q) (by simpa using h) x
    simp only [List.set_cons_succ,val,ih,List.getD_cons_succ,pw,Int.mul_add,Int.mul_assoc]
    omega
/-- Behind i bytes,the highest,of m. -/
def FromAt (n : Int) (m i L : Nat) (lk : List Int) : Prop := lk.length = L ∧ Words lk ∧ val lk = n / 256 ^ (m - i) * 256 ^ (m - i)
theorem mod_r {x r A : Int} {k : Nat} (hk : k < 8) (h : x + 18446744073709551616 * r = A * 256 ^ (k + 1)) : x % 256 ^ (k + 1) = 0 := by
  have hk8 : k = 0 ∨ k = 1 ∨ k = 2 ∨ k = 3 ∨ k = 4 ∨ k = 5 ∨ k = 6 ∨ k = 7 := by omega
  rcases hk8 with rfl | rfl | rfl | rfl | rfl | rfl | rfl | rfl <;> simp only [Int.pow_succ,Int.pow_zero,Nat.reduceAdd] at * <;> omega
theorem word_r {x c : Int} {k : Nat} (hk : k < 8) (hx : Word x) (h : x % 256 ^ (k + 1) = 0) (h0 : 0 ≤ c) (h1 : c < 256) : Word (x + c * 256 ^ k) ∧ 0 ≤ c * 256 ^ k ∧ c * 256 ^ k < 18446744073709551616 := by
  unfold Word at *
  have hk8 : k = 0 ∨ k = 1 ∨ k = 2 ∨ k = 3 ∨ k = 4 ∨ k = 5 ∨ k = 6 ∨ k = 7 := by omega
  rcases hk8 with rfl | rfl | rfl | rfl | rfl | rfl | rfl | rfl <;> simp only [Int.pow_succ,Int.pow_zero,Nat.reduceAdd] at * <;> omega
theorem or_byte {x c : Int} {k : Nat} (hk : k < 8) (hx : Word x) (h : x % 256 ^ (k + 1) = 0) (h0 : 0 ≤ c) (h1 : c < 256) :
    bits .or .u64 x (IntKind.u64.wrap (c * 2 ^ (k * 8))) = x + c * 256 ^ k := by
  have hw := word_r hk hx h h0 h1
  rw [Nat.mul_comm k 8,two_256]
  have e : IntKind.u64.wrap (c * 256 ^ k) = c * 256 ^ k := by rw [IntKind.wrap_u64]; omega
  rw [e]
  obtain ⟨X,rfl⟩ := Int.eq_ofNat_of_zero_le hx.1
  obtain ⟨C,rfl⟩ := Int.eq_ofNat_of_zero_le h0
  have e2 : (C : Int) * 256 ^ k = ((C * 256 ^ k : Nat) : Int) := by rw [Int.natCast_mul,Int.natCast_pow]; rfl
  have e3 : ((X : Int) % 256 ^ (k + 1) : Int) = ((X % 256 ^ (k + 1) : Nat) : Int) := by rw [Int.natCast_emod,Int.natCast_pow]; rfl
  rw [e2] at hw ⊢
  rw [e3] at h
  have hX : X = 2 ^ (8 * (k + 1)) * (X / 256 ^ (k + 1)) := by
    have := Nat.div_add_mod X (256 ^ (k + 1))
    have e4 : (2 : Nat) ^ (8 * (k + 1)) = 256 ^ (k + 1) := by rw [Nat.pow_mul]
    rw [e4]; omega
  have hC : C * 256 ^ k < 2 ^ (8 * (k + 1)) := by
    have e4 : (2 : Nat) ^ (8 * (k + 1)) = 256 * 256 ^ k := by rw [Nat.pow_mul,Nat.pow_succ,Nat.mul_comm]
    rw [e4]
    exact Nat.mul_lt_mul_of_pos_right (by omega) (Nat.pos_of_ne_zero (by simp))
  have hor : X ||| C * 256 ^ k = X + C * 256 ^ k := by
    have := Nat.two_pow_add_eq_or_of_lt hC (X / 256 ^ (k + 1))
    rw [← hX] at this
    exact this.symm
  have hxw := hx.2
  rw [u64_or_nat X (C * 256 ^ k) (by omega) (by have := hw.2.2; omega),hor,Int.natCast_add]
theorem FromAt.step {n : Int} {m i L : Nat} {lk : List Int} (h : FromAt n m i L lk) (hn : 0 ≤ n) (hi : i < m) (hL : (m + 7) / 8 = L) :
    lk.getD ((m - 1 - i) / 8) 0 % 256 ^ ((m - 1 - i) % 8 + 1) = 0 ∧
    FromAt n m (i + 1) L (lk.set ((m - 1 - i) / 8) (lk.getD ((m - 1 - i) / 8) 0 + byteAt n (m - 1 - i) * 256 ^ ((m - 1 - i) % 8))) := by
  obtain ⟨hlen,hw,hv⟩ := h
  obtain ⟨p,hp⟩ : ∃ p,m - 1 - i = p := ⟨_,rfl⟩
  have hp1 : m - i = p + 1 := by omega
  have hp2 : m - (i + 1) = p := by omega
  rw [hp1] at hv
  rw [hp]
  have hq : p / 8 < lk.length := by omega
  have hr : p % 8 < 8 := Nat.mod_lt _ (by decide)
  have hb := byteAt_bd n p
  have wx := hw.getD (p / 8)
  have hP : (256 : Int) ^ p = pw (p / 8) * 256 ^ (p % 8) := by rw [pw_256,← Int.pow_add]; congr 1; omega
  have hP1 : (256 : Int) ^ (p + 1) = pw (p / 8) * 256 ^ (p % 8 + 1) := by rw [pw_256,← Int.pow_add]; congr 1; omega
  have hmod : lk.getD (p / 8) 0 % 256 ^ (p % 8 + 1) = 0 := by
    have hs := seg_bd hw 0 (p / 8) (by omega)
    have e1 : val lk = seg lk 0 (p / 8 + 1 + (lk.length - (p / 8 + 1))) := by
      rw [show p / 8 + 1 + (lk.length - (p / 8 + 1)) = lk.length by omega,seg_all,List.take_length]
    rw [seg_add (by omega),seg_succ (by omega),Nat.zero_add] at e1
    rw [hv,hP1] at e1
    have hpp := pw_pos (p / 8)
    refine mod_r (r := seg lk (0 + (p / 8 + 1)) (lk.length - (p / 8 + 1))) (A := n / (pw (p / 8) * 256 ^ (p % 8 + 1))) hr ?_
    have e2 := congrArg (· / pw (p / 8)) e1
    rw [show n / (pw (p / 8) * 256 ^ (p % 8 + 1)) * (pw (p / 8) * 256 ^ (p % 8 + 1)) = pw (p / 8) * (n / (pw (p / 8) * 256 ^ (p % 8 + 1)) * 256 ^ (p % 8 + 1)) by rw [Int.mul_left_comm],Int.mul_ediv_cancel_left _ (by omega)] at e2
    rw [e2,show seg lk 0 (p / 8) + pw (p / 8) * lk.getD (p / 8) 0 + pw (p / 8 + 1) * seg lk (0 + (p / 8 + 1)) (lk.length - (p / 8 + 1)) = seg lk 0 (p / 8) + pw (p / 8) * (lk.getD (p / 8) 0 + 18446744073709551616 * seg lk (0 + (p / 8 + 1)) (lk.length - (p / 8 + 1))) by simp only [pw]; rw [Int.mul_add,Int.mul_left_comm,Int.mul_assoc]; omega,ediv_low hpp hs.1 hs.2]
  refine ⟨hmod,by simp [hlen],hw.set _ (word_r hr wx hmod hb.1 hb.2).1,?_⟩
  rw [val_set hq,hv,hp2]
  have e3 : n / 256 ^ (p + 1) = n / 256 ^ p / 256 := by
    rw [Int.pow_succ,Int.ediv_ediv_of_nonneg (Int.le_of_lt (Int.pow_pos (by decide)))]
  have e4 : n / 256 ^ p = n / 256 ^ p / 256 * 256 + byteAt n p := by unfold byteAt; omega
  have e5 : pw (p / 8) * (lk.getD (p / 8) 0 + byteAt n p * 256 ^ (p % 8) - lk.getD (p / 8) 0) = byteAt n p * 256 ^ p := by
    rw [hP,show lk.getD (p / 8) 0 + byteAt n p * 256 ^ (p % 8) - lk.getD (p / 8) 0 = byteAt n p * 256 ^ (p % 8) by omega,Int.mul_left_comm]
  rw [e5,e3,Int.pow_succ,← Int.mul_assoc]
  generalize (256 : Int) ^ p = P at *
  generalize byteAt n p = c at *
  generalize n / P = a at *
  generalize a / 256 = d at *
  rw [e4,Int.add_mul,Int.mul_right_comm]
theorem fromAt_zero {n : Int} {m L : Nat} (hn : 0 ≤ n) (h : n < 256 ^ m) : FromAt n m 0 L (List.replicate L 0) := by
  refine ⟨by simp,Words.replicate L,?_⟩
  rw [val_replicate,Nat.sub_zero,Int.ediv_eq_zero_of_lt hn h,Int.zero_mul]
theorem FromAt.done {n : Int} {m L : Nat} {lk : List Int} (h : FromAt n m m L lk) : val lk = n := by
  have := h.2.2
  rw [Nat.sub_self] at this
  simpa using this
end Go.Proofs.YtgccgacpifebbaaGreatDoor
namespace Go.Proofs.YtgccgacpifebbaaGreatDoor
open Go.RowKit
set_option linter.unusedVariables false
set_option maxRecDepth 100000 in
set_option maxHeartbeats 1000000 in
theorem from_pos (b t cap len : Nat) (n : Int) (w : World) (ha : Arr w b t .u8 (be n (len + 1))) (hm : len ≤ 400) (hn : 0 ≤ n) (hlt : n < 256 ^ (len + 1)) (hz : byteAt n len ≠ 0) :
    Calls Tryz.prog 62 #[.slice (some ⟨b,0,none⟩) (len + 1) cap] w (RetNat n w) := by
  obtain ⟨L,hL⟩ : ∃ L,(len + 1 + 7) / 8 = L := ⟨_,rfl⟩
  have hi : (((len : Int) + 1 + 8 - 1) / 8) = (L : Int) := by omega
  have hmk := make64 L L rfl (by omega)
  have k1 := ha.lt
  have hle : (be n (len + 1)).length = len + 1 := be_length _ _
  have hz0 : (be n (len + 1)).getD 0 0 ≠ 0 := by rw [be_getD _ _ _ (by omega)]; exact hz
  have h00 := fromAt_zero (L := L) hn hlt
  have H00 := Lib.hid h00
  have Hn := Lib.hid hn
  have HL := Lib.hid hL
  have Hle := Lib.hid hle
  clear h00 hn hlt hz hL hle
  go_enter Tryz.func62,Tryz.ntmps62
  go_wp2_with fail
  refine (trimLeft_top b t len cap _ _ (ha.alloc _) (by rw [Hle.out]; omega) hz0).mono ?_
  rintro e w' ⟨rfl,rfl⟩
  go_wp2_with fail
  go_loopw [17] (fun i wr => ∃ (k : Nat) (lk : List Int),k ≤ len + 1 ∧ i = .int .i64 k ∧ FromAt n (len + 1) k L lk ∧ Arr wr (w.heap.size + 1) 23 .u64 lk ∧ Below (w.heap.size + 1) (w.alloc (.cells #[.int .u64 0,.slice none 0 0] 26)) wr) (fun i _ => len + 1 - (intOf i).toNat)
  case atStart => exact ⟨0,_,Nat.zero_le _,rfl,H00.out,Arr.zeros _ _ _ L _ (by simp),(Below.refl _ _).alloc (by simp) _⟩
  case round =>
    obtain ⟨k,lk,hk,rfl,hat,hak,hB⟩ := hrel
    by_cases hlt : k < len + 1
    · obtain ⟨p,hp⟩ : ∃ p : Nat,len - k = p := ⟨_,rfl⟩
      have hpi : (len : Int) - k = p := by omega
      have hst := hat.step Hn.out hlt HL.out
      have hlen := hat.1
      have hwk := hat.2.1.getD (p / 8)
      have hr := Nat.mod_lt p (show 8 > 0 by decide)
      have hb := byteAt_bd n p
      have hq : p / 8 < L := by have := HL.out; omega
      have hcx := ((ha.alloc _).below hB (by omega)).cell k (by rw [Hle.out]; omega)
      rw [be_getD _ _ _ hlt] at hcx
      rw [show len + 1 - 1 - k = p by omega] at hst hcx
      have hqi : (p : Int) / 8 = ((p / 8 : Nat) : Int) := by omega
      have hri : (p : Int) % 8 = ((p % 8 : Nat) : Int) := by omega
      generalize p / 8 = q at hst hwk hq hqi
      generalize p % 8 = r at hst hr hri
      have hco := hak.cell q (by omega)
      have hfo := hak.free q
      obtain ⟨hmod,hst⟩ := hst
      obtain ⟨x,hx⟩ : ∃ x,lk.getD q 0 = x := ⟨_,rfl⟩
      obtain ⟨c,hc⟩ : ∃ c,byteAt n p = c := ⟨_,rfl⟩
      rw [hx] at hwk hmod hst hco
      rw [hc] at hb hst hcx
      have hor := or_byte hr hwk hmod hb.1 hb.2
      have hq0 : (0 : Int) ≤ (q : Int) := by omega
      have hqL : (q : Int) < (L : Int) := by omega
      have hr0 : (0 : Int) ≤ (r : Int) * 8 := by omega
      have hr8 : (r : Int) * 8 < 64 := by omega
      have St := Lib.hid hst
      have Hor := Lib.hid hor
      have Hp := Lib.hid hp
      have Hlen := Lib.hid hlen
      have Hwk := Lib.hid hwk
      have Hmod := Lib.hid hmod
      clear hst hor hp hlen hx hc hat hwk hmod
      go_wp2_with fail
      go_region
      rw [Hor.out]
      go_wp2
      exact ⟨⟨k + 1,_,by omega,by go_num,St.out,hak.set _ _,(hB.setCell (p := ⟨w.heap.size + 1,q,none⟩) (Nat.le_refl _) _).drew⟩,by simp [intOf]; omega⟩
    · obtain rfl : k = len + 1 := by omega
      have hv := hat.done
      have hlen := hat.1
      have hwk := hat.2.1
      have vr := (Var.new w w.heap.size (.int .u64 0) none 0 0 rfl).below hB (by omega)
      have zr := hB.size
      rw [World.size_alloc] at zr
      have hBw : Below w.heap.size w wr := Below.trans (by go_grown) (hB.mono (by omega))
      clear hat
      go_wp2_with fail
      refine (made_any (w.heap.size + 1) 23 L L lk wr hak (Nat.le_refl _) (by omega) (by have := HL.out; omega) hwk).mono ?_
      rintro e w1 ⟨v,rfl,hvn,hb1⟩
      obtain ⟨xa,xp,xl,xc,rfl⟩ := hvn.shape
      rw [List.take_of_length_le (by omega),hv] at hvn
      replace vr := vr.below hb1 (by omega)
      have c0 := vr.c0
      have c1 := vr.c1
      have f0 := vr.free 0
      have f1 := vr.free 1
      go_wp2
      exact bodyPost_var Tryz.results62 rfl rfl (vr.set _ _ _ _) (hvn.two vr _ _) (below_two (hBw.trans (hb1.mono (by omega))) (Nat.le_refl _) _ _)
end Go.Proofs.YtgccgacpifebbaaGreatDoor
namespace Go.Proofs.YtgccgacpifebbaaGreatDoor
open Go.RowKit
set_option linter.unusedVariables false
set_option maxRecDepth 100000 in
set_option maxHeartbeats 1000000 in
theorem from_zero (a : Option Addr) (cap : Nat) (w : World) :
    Calls Tryz.prog 62 #[.slice a 0 cap] w (RetNat 0 w) := by
  have hmk := make64 0 0 rfl (by omega)
  go_enter Tryz.func62,Tryz.ntmps62
  go_wp2_with fail
  refine (trimLeft_nil _ _ _).mono ?_
  rintro e w' ⟨rfl,rfl⟩
  go_wp2_with fail
  go_loopw [17] (fun i wr => i = .int .i64 0 ∧ Arr wr (w.heap.size + 1) 23 .u64 [] ∧ Below (w.heap.size + 1) (w.alloc (.cells #[.int .u64 0,.slice none 0 0] 26)) wr) (fun _ _ => 0)
  case atStart => exact ⟨rfl,Arr.zeros _ _ _ 0 _ (by simp),(Below.refl _ _).alloc (by simp) _⟩
  case round =>
    obtain ⟨rfl,hak,hB⟩ := hrel
    have vr := (Var.new w w.heap.size (.int .u64 0) none 0 0 rfl).below hB (by omega)
    have zr := hB.size
    rw [World.size_alloc] at zr
    have hBw : Below w.heap.size w wr := Below.trans (by go_grown) (hB.mono (by omega))
    go_wp2_with fail
    refine (made_any (w.heap.size + 1) 23 0 0 [] wr hak (Nat.le_refl _) (by simp) (by omega) Words.nil).mono ?_
    rintro e w1 ⟨v,rfl,hvn,hb1⟩
    obtain ⟨xa,xp,xl,xc,rfl⟩ := hvn.shape
    replace vr := vr.below hb1 (by omega)
    have c0 := vr.c0
    have c1 := vr.c1
    have f0 := vr.free 0
    have f1 := vr.free 1
    go_wp2
    exact bodyPost_var Tryz.results62 rfl rfl (vr.set _ _ _ _) (hvn.two vr _ _) (below_two (hBw.trans (hb1.mono (by omega))) (Nat.le_refl _) _ _)
/-- A number's highest byte is not 0. -/
theorem top_byte {n : Int} {k : Nat} (h : IsBits n (k + 1)) (hn : 0 ≤ n) : n < 256 ^ (k / 8 + 1) ∧ byteAt n (k / 8) ≠ 0 := by
  have h1 := h.1
  have h2 := h.2 (by omega)
  rw [Nat.add_sub_cancel] at h2
  have e1 : (256 : Int) ^ (k / 8) = 2 ^ (8 * (k / 8)) := by rw [two_256]
  have e2 : (256 : Int) ^ (k / 8 + 1) = 2 ^ (8 * (k / 8 + 1)) := by rw [two_256]
  have m1 := two_pow_mono (a := 8 * (k / 8)) (b := k) (by omega)
  have m2 := two_pow_mono (a := k + 1) (b := 8 * (k / 8 + 1)) (by omega)
  refine ⟨by omega,?_⟩
  have hp : (0 : Int) < 256 ^ (k / 8) := Int.pow_pos (by decide)
  have b1 : 1 ≤ n / 256 ^ (k / 8) := by
    rw [Int.le_ediv_iff_mul_le hp]; omega
  have b2 : n / 256 ^ (k / 8) < 256 := by
    rw [Int.ediv_lt_iff_lt_mul hp]
    rw [Int.pow_succ] at e2
    omega
  unfold byteAt
  omega
theorem from_of (b t m cap k : Nat) (n : Int) (w : World) (ha : Arr w b t .u8 (be n m)) (hm : m = (k + 7) / 8) (hk : IsBits n k) (hn : 0 ≤ n) (hle : m ≤ 401) :
    Calls Tryz.prog 62 #[.slice (some ⟨b,0,none⟩) m cap] w (RetNat n w) := by
  match k with
  | 0 =>
    obtain rfl : m = 0 := by omega
    have h1 := hk.1
    obtain rfl : n = 0 := by simp at h1; omega
    exact from_zero _ _ _
  | k + 1 =>
    obtain ⟨h1,h2⟩ := top_byte hk hn
    obtain rfl : m = k / 8 + 1 := by omega
    exact from_pos b t cap (k / 8) n w ha (by omega) hn h1 h2
end Go.Proofs.YtgccgacpifebbaaGreatDoor
namespace Go.Proofs.YtgccgacpifebbaaGreatDoor
open Go.RowKit
set_option linter.unusedVariables false
theorem bits_few {n : Int} {k m : Nat} (h : IsBits n k) (hn : n < 2 ^ m) : k ≤ m := by
  by_cases hk : k = 0
  · omega
  · have h2 := h.2 hk
    by_cases hc : m ≤ k - 1
    · have := two_pow_mono hc
      omega
    · omega
set_option maxRecDepth 100000 in
set_option maxHeartbeats 1000000 in
theorem hand_nat (n : Int) (hn : 0 ≤ n) (hlt : n < 2 ^ 384) (p : Option Addr) (len cap : Nat) (w : World)
    (nb : ∀ w',Below w.heap.size w w' → Calls Tryz.prog 63 #[.slice p len cap] w' (RetBytes n w')) :
    Calls Tryz.prog 30 #[.slice p len cap] w (RetNat n w) := by
  have Hlt := Lib.hid hlt
  clear hlt
  go_enter Tryz.func30,Tryz.ntmps30
  go_wp2_with fail
  refine (nb _ (by go_grown)).mono ?_
  rintro e w1 ⟨b,k,m,rfl,hk,hm,ha,hs,hb1⟩
  have hk1 := bits_few hk Hlt.out
  have Hk := Lib.hid hk
  have Hm := Lib.hid hm
  clear hk hm
  go_wp2_with fail
  refine (from_of b _ m m k n _ ha Hm.out Hk.out hn (by have := Hm.out; omega)).mono ?_
  rintro e w2 ⟨v,rfl,hv,hb2⟩
  obtain ⟨xa,xp,xl,xc,rfl⟩ := hv.shape
  have z1 := hb1.size
  have z2 := hb2.size
  rw [World.size_alloc] at z1 hb1
  have vr := ((Var.new w w.heap.size (.int .u64 0) none 0 0 rfl).below hb1 (by omega)).below hb2 (by omega)
  have hB : Below w.heap.size w w2 := (Below.trans (by go_grown) (hb1.mono (by omega))).trans (hb2.mono (by omega))
  have c0 := vr.c0
  have c1 := vr.c1
  have f0 := vr.free 0
  have f1 := vr.free 1
  go_wp2
  exact bodyPost_var Tryz.results30 rfl rfl (vr.set _ _ _ _) (hv.two vr _ _) (below_two hB (Nat.le_refl _) _ _)
end Go.Proofs.YtgccgacpifebbaaGreatDoor
