/- Texts of digits, and what they are worth. Contracts of isText and Parse. -/
import Derived.Test.YtogildikglomkaaGreatDoorRefPow
import Derived.Test.YtogildikglomkaaGreatDoorKnown
import Derived.Test.YtogildikglomkaaGreatDoorBack
import Derived.Deep.LoopGhost
import Derived.Test.YtogildikglomkaaGreatDoorMulAny
import Derived.Test.YtogildikglomkaaGreatDoorAdd
namespace Go.Proofs.YtogildikglomkaaGreatDoor
open Go.RowKit
set_option linter.unusedVariables false

/-- The digit at k. -/
def dg (s : ByteArray) (k : Nat) : Int := if h : k < s.size then (s[k].toNat : Int) - 48 else 0
theorem dg_eq {s : ByteArray} {k : Nat} (h : k < s.size) : dg s k = (s[k].toNat : Int) - 48 := dif_pos h
/-- The number of the first k digits. -/
def decTo (s : ByteArray) : Nat → Int
  | 0 => 0
  | k + 1 => decTo s k * 10 + dg s k
/-- A digit. -/
def Dig (x : Int) : Prop := 0 ≤ x ∧ x ≤ 9
/-- A number's text. -/
def IsDec (s : ByteArray) : Prop := 1 ≤ s.size ∧ s.size ≤ 200 ∧ (∀ k, k < s.size → Dig (dg s k)) ∧ (s.size = 1 ∨ dg s 0 ≠ 0)
theorem decTo_bd {s : ByteArray} : ∀ {k : Nat}, (∀ j, j < k → Dig (dg s j)) → 0 ≤ decTo s k ∧ decTo s k < lpw k
  | 0, _ => by simp [decTo, lpw]
  | k + 1, h => by
    obtain ⟨h1, h2⟩ := decTo_bd (s := s) (k := k) (fun j hj => h j (by omega))
    obtain ⟨h3, h4⟩ := h k (by omega)
    simp only [decTo, lpw]
    constructor <;> omega
theorem num_nil (w : World) : IsNum w (.slice none 0 0) 0 := ⟨[], .inl ⟨rfl, rfl⟩, fun h => absurd rfl h, rfl⟩
theorem num_ten (W : World) : IsNum (W.alloc (.cells #[.int .u32 10] 101)) (.slice (some ⟨W.heap.size, 0, none⟩) 1 1) 10 := by
  have := isNum_arr (len := 1) (cap := 1) (Arr.new W 101 .u32 [10] W.heap.size rfl) (by simp) (by omega) (fun x hx => by simp at hx; subst hx; exact ⟨by decide, by decide⟩) (fun _ => by decide)
  simpa [lval] using this
/-- What NatParse answers. -/
def RetParse (s : ByteArray) (w : World) (e : Ending) (w' : World) : Prop := (IsDec s ∧ ∃ v, e = .returned (.tuple #[v, .bool true]) ∧ IsNum w' v (decTo s s.size) ∧ Below w.heap.size w w') ∨ (¬ IsDec s ∧ e = .returned (.tuple #[.slice none 0 0, .bool false]) ∧ Below w.heap.size w w')
end Go.Proofs.YtogildikglomkaaGreatDoor

namespace Go.Proofs.YtogildikglomkaaGreatDoor
open Go.RowKit
set_option linter.unusedVariables false

theorem toList_len (s : ByteArray) : s.toList.length = s.size := by rw [ByteArray.toList_eq, Array.length_toList]; rfl
theorem one_nought {s : ByteArray} (h : s.size = 1) (h0 : 0 < s.size) (c0 : s[0].toNat = 48) : s = { data := #[48] } := by
  obtain ⟨⟨l⟩⟩ := s
  match l, h, h0, c0 with
  | [a], _, _, c0 =>
    have : a = 48 := UInt8.toNat_inj.1 c0
    rw [this]
/-- What isText answers. -/
def RetIsText (s : ByteArray) (w : World) (e : Ending) (w' : World) : Prop := ((IsDec s ∧ e = .returned (.bool true)) ∨ (¬ IsDec s ∧ e = .returned (.bool false))) ∧ w = w'
set_option maxRecDepth 100000 in
set_option maxHeartbeats 4000000 in
theorem isText_any (s : ByteArray) (w : World) (hs : s.size ≤ 9223372036854775807) : Calls Tryz.prog 82 #[.string s] w (RetIsText s w) := by
  go_enter Tryz.func82, Tryz.ntmps82
  by_cases h1 : s.size = 0
  · have n1 : ¬ IsDec s := fun h => by have := h.1; omega
    have e1 : s = { data := #[] } := by
      rcases s with ⟨⟨l⟩⟩
      cases l with
      | nil => rfl
      | cons a l => simp [ByteArray.size] at h1
    subst e1
    go_wp2_with fail
    go_ret
    exact ⟨.inr ⟨n1, rfl⟩, rfl⟩
  have ne : ¬ s.toList = [] := by
    intro e
    apply h1
    rw [← toList_len, e]
    rfl
  have ne1 : s.toList.isEmpty = false := List.isEmpty_eq_false_iff.2 ne
  by_cases h2 : 200 < s.size
  · have n1 : ¬ IsDec s := fun h => by have := h.2.1; omega
    go_wp2_with fail
    go_ret
    exact ⟨.inr ⟨n1, rfl⟩, rfl⟩
  have h0 : 0 < s.size := by omega
  go_wp2_with fail
  go_loopg [13] s.size (fun g i wr => ∃ k : Nat, g = s.size - k ∧ k ≤ s.size ∧ i = .int .i64 k ∧ (∀ j, j < k → Dig (dg s j)) ∧ w = wr)
  case atStart => exact ⟨0, rfl, Nat.zero_le _, rfl, fun j hj => by omega, rfl⟩
  case round =>
    obtain ⟨k, hg, hk, rfl, hd, rfl⟩ := hrel
    have Hg := Lib.hid hg
    have Hd := Lib.hid hd
    clear hg hd
    by_cases hlt : k < s.size
    · have hdk := dg_eq hlt
      by_cases c1 : s[k].toNat < 48
      · have n1 : ¬ IsDec s := fun h => by have := (h.2.2.1 k hlt).1; omega
        clear hdk
        go_wp2_with fail
        go_ret
        exact ⟨.inr ⟨n1, rfl⟩, rfl⟩
      by_cases c2 : 57 < s[k].toNat
      · have n1 : ¬ IsDec s := fun h => by have := (h.2.2.1 k hlt).2; omega
        clear hdk
        go_wp2_with fail
        go_ret
        exact ⟨.inr ⟨n1, rfl⟩, rfl⟩
      have Hdk : Hid (Dig (dg s k)) := Lib.hid ⟨by omega, by omega⟩
      clear hdk
      go_wp2_with fail
      go_roundg (s.size - (k + 1))
      case measure => have := Hg.out; omega
      case rel => exact ⟨k + 1, rfl, by omega, by go_num, fun j hj => by
          by_cases e : j = k
          · subst e
            exact Hdk.out
          · exact Hd.out j (by omega), rfl⟩
    · obtain rfl : k = s.size := by omega
      have hd0 := dg_eq h0
      by_cases c0 : s[0].toNat = 48
      · by_cases c1 : s.size = 1
        · have y1 : IsDec s := ⟨by omega, by omega, Hd.out, .inl c1⟩
          have e1 : s = { data := #[48] } := one_nought c1 h0 c0
          clear hd0 c0 Hd Hg
          subst e1
          go_wp2_with fail
          go_ret
          exact ⟨.inl ⟨y1, rfl⟩, rfl⟩
        · have n1 : ¬ IsDec s := fun h => by
            rcases h.2.2.2 with h | h
            · exact c1 h
            · exact h (by omega)
          have ne2 : ¬ s.toList = [48] := by
            intro e
            apply c1
            rw [← toList_len, e]
            rfl
          have ne3 : (s.toList == [48]) = false := beq_eq_false_iff_ne.2 ne2
          have q1 : ((s[0].toNat : Int) != 48) = false := by rw [c0]; rfl
          clear hd0
          go_wp2_with fail
          go_ret
          exact ⟨.inr ⟨n1, rfl⟩, rfl⟩
      · have y1 : IsDec s := ⟨by omega, by omega, Hd.out, .inr (by omega)⟩
        have ne2 : ¬ s.toList = [48] := by
          rw [ByteArray.toList_eq]
          intro e
          apply c0
          rcases s with ⟨⟨l⟩⟩
          obtain rfl : l = [48] := e
          rfl
        have ne3 : (s.toList == [48]) = false := beq_eq_false_iff_ne.2 ne2
        have q1 : ((s[0].toNat : Int) != 48) = true := bne_iff_ne.2 (by omega)
        clear hd0
        go_wp2_with fail
        go_ret
        exact ⟨.inl ⟨y1, rfl⟩, rfl⟩

theorem decTo_ten {s : ByteArray} : ∀ {k : Nat}, (∀ j, j < k → Dig (dg s j)) → 0 ≤ decTo s k ∧ decTo s k < 10 ^ k
  | 0, _ => by simp [decTo]
  | k + 1, h => by
    obtain ⟨h1, h2⟩ := decTo_ten (s := s) (k := k) (fun j hj => h j (by omega))
    obtain ⟨h3, h4⟩ := h k (by omega)
    simp only [decTo]
    rw [Int.pow_succ]
    constructor <;> omega
theorem decTo_cut {s t : ByteArray} {m : Nat} : ∀ j : Nat, (∀ i, i < j → dg t i = dg s (m + i)) → decTo s (m + j) = decTo s m * 10 ^ j + decTo t j
  | 0, _ => by simp [decTo]
  | j + 1, h => by
    have h1 := decTo_cut (s := s) (t := t) (m := m) j (fun i hi => h i (by omega))
    rw [← Nat.add_assoc]
    simp only [decTo]
    rw [h1, h j (by omega), Int.pow_succ, Int.add_mul, Int.mul_assoc, Int.add_assoc]
theorem dg_rest {t : ByteArray} {n : Nat} (hn : n ≤ t.size) (j : Nat) : dg (t.extract n t.size) j = dg t (n + j) := by
  unfold dg
  have hs : (t.extract n t.size).size = t.size - n := by rw [ByteArray.size_extract]; omega
  by_cases h : n + j < t.size
  · rw [dif_pos h, dif_pos (by omega), ByteArray.getElem_extract]
  · rw [dif_neg h, dif_neg (by omega)]
theorem ten_word {k : Nat} (h : k ≤ 19) : (1 : Int) ≤ 10 ^ k ∧ (10 : Int) ^ k ≤ 10000000000000000000 := by
  have h1 : (1 : Int) ≤ 10 ^ k := Int.pow_pos (by decide)
  refine ⟨h1, ?_⟩
  have : (10 : Int) ^ k ≤ 10 ^ 19 := by
    have := Nat.pow_le_pow_right (show 0 < 10 by decide) h
    exact_mod_cast this
  exact Int.le_trans this (by decide)
theorem ten_many {k : Nat} (h : k ≤ 200) : (10 : Int) ^ k < pw 39 := by
  have : (10 : Int) ^ k ≤ 10 ^ 200 := by
    have := Nat.pow_le_pow_right (show 0 < 10 by decide) h
    exact_mod_cast this
  exact Int.lt_of_le_of_lt this (by decide +kernel)
/-- What Parse answers. -/
def RetParseN (s : ByteArray) (w : World) (e : Ending) (w' : World) : Prop := (IsDec s ∧ ∃ v, e = .returned (.tuple #[v, .bool true]) ∧ IsNat w' v (decTo s s.size) ∧ Below w.heap.size w w') ∨ (¬ IsDec s ∧ e = .returned (.tuple #[.agg #[.int .u64 0, .slice none 0 0], .bool false]) ∧ Below w.heap.size w w')
/-- The loop of Parse: the text that is left, and the number of what was ahead of it. -/
def ParseAt (s : ByteArray) (w : World) (ca cr : Nat) (t : ByteArray) (m : Nat) (wr : World) : Prop :=
  m + t.size = s.size ∧ (∀ j, dg t j = dg s (m + j)) ∧ Var wr cr (.int .u64 0) (.slice none 0 0) ∧ Below w.heap.size w wr ∧ ∃ x p l c, Var wr ca (.int .u64 x) (.slice p l c) ∧ IsNat wr (.agg #[.int .u64 x, .slice p l c]) (decTo s m)

set_option maxRecDepth 100000 in
set_option maxHeartbeats 4000000 in
theorem parse_any (s : ByteArray) (w : World) (hs : s.size ≤ 9223372036854775807) : Calls Tryz.prog 44 #[.string s] w (RetParseN s w) := by
  go_enter Tryz.func44, Tryz.ntmps44
  have vr : Var (w.alloc (.cells #[.int .u64 0, .slice none 0 0] 25)) w.heap.size (.int .u64 0) (.slice none 0 0) := Var.new w _ _ _ _ _ rfl
  have hB1 : Below w.heap.size w (w.alloc (.cells #[.int .u64 0, .slice none 0 0] 25)) := by go_grown
  go_wp2_with fail
  refine (isText_any s _ hs).mono ?_
  rintro e w1 ⟨he, rfl⟩
  generalize (w.alloc (.cells #[.int .u64 0, .slice none 0 0] 25)) = w1 at vr hB1 ⊢
  have lr := vr.lt
  rcases he with ⟨hd, rfl⟩ | ⟨hd, rfl⟩
  · have va : Var (w1.alloc (.cells #[.int .u64 0, .slice none 0 0] 25)) w1.heap.size (.int .u64 0) (.slice none 0 0) := Var.new w1 _ _ _ _ _ rfl
    have start : ParseAt s w w1.heap.size w.heap.size s 0 (w1.alloc (.cells #[.int .u64 0, .slice none 0 0] 25)) :=
      ⟨Nat.zero_add _, fun j => by rw [Nat.zero_add], vr.alloc _, hB1.alloc hB1.size _, _, _, _, _, va, IsNat.word ⟨by decide, by decide⟩⟩
    have hne : w.heap.size ≠ w1.heap.size := Nat.ne_of_lt lr
    have hca : w.heap.size ≤ w1.heap.size := Nat.le_of_lt lr
    have Hd := Lib.hid hd
    clear vr hB1 va lr hd
    go_wp2_with fail
    generalize (w1.alloc (.cells #[.int .u64 0, .slice none 0 0] 25)) = w2 at start ⊢
    generalize w1.heap.size = ca at start hne hca ⊢
    go_loopg [0] s.size (fun g t wr => ∃ (ts : ByteArray) (m : Nat), g = ts.size ∧ t = .string ts ∧ ParseAt s w ca w.heap.size ts m wr)
    case atStart => exact ⟨s, 0, rfl, rfl, start⟩
    case round =>
      clear start
      obtain ⟨ts, m, hg, rfl, hm, hdg, vr, hB, x, p, l, c, va, ha⟩ := hrel
      have Hg := Lib.hid hg
      have Hdg := Lib.hid hdg
      have s200 := Hd.out.2.1
      have vr0 := vr.c0
      have vr1 := vr.c1
      have va0 := va.c0
      have va1 := va.c1
      have vf0 := vr.free 0
      have vf1 := vr.free 1
      have va2 := va.free 0
      have va3 := va.free 1
      have Hdt : Hid (∀ j, j < ts.size → Dig (dg ts j)) := Lib.hid fun j hj => by
        rw [hdg j]
        exact Hd.out.2.2.1 (m + j) (by omega)
      clear hg hdg
      by_cases h0 : ts.size = 0
      · obtain rfl : m = s.size := by omega
        have Hd' := Hd.out
        clear Hdg Hdt
        go_wp2_with fail
        have u := vr.set (.int .u64 x) p l c
        refine bodyPost_ret (v := .tuple #[.agg #[.int .u64 x, .slice p l c], .bool true]) ?_ rfl (.inl ⟨Hd', _, rfl, ha.two vr _ _, below_two hB (Nat.le_refl _) _ _⟩)
        simp [results, Tryz.results44, asAddr, run_loadVar_nat u]
      · have h1 : 0 < ts.size := by omega
        obtain ⟨n, hn⟩ : ∃ n, min ts.size 19 = n := ⟨_, rfl⟩
        have hmin : min (ts.size : Int) 19 = (n : Int) := by omega
        have n1 : 1 ≤ n := by omega
        have n2 : n ≤ 19 := by omega
        have n3 : n ≤ ts.size := by omega
        clear hn
        go_wp2_with fail
        go_loopg [6, 7, 20] n (fun g a b i wi => ∃ (k : Nat) (G P : Int), g = n - k ∧ k ≤ n ∧ i = .int .i64 k ∧ a = .int .u64 G ∧ b = .int .u64 P ∧ G = decTo ts k ∧ P = 10 ^ k ∧ wr = wi)
        case atStart => exact ⟨0, 0, 1, rfl, Nat.zero_le _, rfl, rfl, rfl, rfl, rfl, rfl⟩
        case round =>
          obtain ⟨k, G, P, hgk, hk, rfl, rfl, rfl, hG, hP, rfl⟩ := hrel
          have Hgk := Lib.hid hgk
          have bG := decTo_ten (s := ts) (k := k) (fun j hj => Hdt.out j (by omega))
          have bP := ten_word (k := k) (by omega)
          rw [← hG, ← hP] at bG
          rw [← hP] at bP
          obtain ⟨P0, P1⟩ := bP
          obtain ⟨G0, G1⟩ := bG
          have HG := Lib.hid hG
          have HP := Lib.hid hP
          clear hgk hG hP
          by_cases hlt : k < n
          · have hk2 : k < ts.size := by omega
            have hdk := dg_eq hk2
            obtain ⟨c, hc⟩ : ∃ c, ts[k].toNat = c := ⟨_, rfl⟩
            rw [hc] at hdk
            obtain ⟨d0, d9⟩ := Hdt.out k hk2
            obtain ⟨D, hD⟩ : ∃ D, (c : Int) - 48 = D := ⟨_, rfl⟩
            rw [hD] at hdk
            rw [hdk] at d0 d9
            have bP2 := (ten_word (k := k + 1) (by omega)).2
            rw [Int.pow_succ, ← HP.out] at bP2
            have w8 : IntKind.u8.wrap D = D := by rw [IntKind.wrap_u8]; omega
            have w64 : IntKind.u64.wrap D = D := by rw [IntKind.wrap_u64]; omega
            have w1 : IntKind.u64.wrap (G * 10) = G * 10 := by rw [IntKind.wrap_u64]; omega
            have w2 : IntKind.u64.wrap (G * 10 + D) = G * 10 + D := by rw [IntKind.wrap_u64]; omega
            have w3 : IntKind.u64.wrap (P * 10) = P * 10 := by rw [IntKind.wrap_u64]; omega
            have Hdk := Lib.hid hdk
            clear hdk bP2
            go_wp2_with fail
            go_roundg (n - (k + 1))
            case measure => have := Hgk.out; omega
            case rel => exact ⟨k + 1, _, _, rfl, by omega, by go_num, rfl, rfl, by
                show _ = decTo ts k * 10 + dg ts k
                rw [← HG.out, Hdk.out], by rw [Int.pow_succ, ← HP.out], rfl⟩
          · obtain rfl : k = n := by omega
            have cut := decTo_cut (s := s) (t := ts) (m := m) k (fun i hi => Hdg.out i)
            rw [← HG.out, ← HP.out] at cut
            have bM := decTo_ten (s := s) (k := m) (fun j hj => Hd.out.2.2.1 j (by omega))
            have bMk := decTo_ten (s := s) (k := m + k) (fun j hj => Hd.out.2.2.1 j (by omega))
            obtain ⟨A, hA⟩ : ∃ A, decTo s m = A := ⟨_, rfl⟩
            rw [hA] at cut bM ha
            have e0 := ten_many (k := m) (by omega)
            have e1 := ten_many (k := m + k) (by omega)
            have e2 : (10000000000000000001 : Int) ≤ pw 39 := by decide +kernel
            obtain ⟨KB, hKB⟩ : ∃ KB, 39 = KB := ⟨_, rfl⟩
            rw [hKB] at e0 e1 e2
            have E1 := Lib.hid (show A < pw KB by omega)
            have E2 := Lib.hid (show P < pw KB by omega)
            have E4 := Lib.hid (show G < pw KB by omega)
            have E3 := Lib.hid (show A * P < pw KB by omega)
            have K1 : 1 ≤ KB := by omega
            have K2 : KB < 40 := by omega
            have K3 : KB ≤ 4294967296 := by omega
            have HwG : Hid (Word G) := Lib.hid ⟨G0, by omega⟩
            have HwP : Hid (Word P) := Lib.hid ⟨by omega, by omega⟩
            have Hcut := Lib.hid cut
            have la := va.lt
            have lr := vr.lt
            clear bM bMk e0 e1 e2 hKB cut hA G0 G1 P0 P1 Hdt
            go_wp2_with fail
            refine wpIn_wide (n := 5) |>.1 ?_
            refine region_ways (by kernel_rfl) fun R hR => ?_
            have H11111111 : ∀ (W : World) (xm : Int) (pm : Option Addr) (lm cm : Nat) (hm : IsNat W (.agg #[.int .u64 xm, .slice pm lm cm]) (A * P)) (xr : Int) (pr : Option Addr) (lr2 cr2 : Nat) (hr : IsNat W (.agg #[.int .u64 xr, .slice pr lr2 cr2]) (A * P + G)) (hV : Var W ca (.int .u64 xr) (.slice pr lr2 cr2)) (hVr : Var W w.heap.size (.int .u64 0) (.slice none 0 0)) (hBW : Below w.heap.size w W), R 0 #[true, true, true, true, true, true, true, true] { tmps := #[.string ts, undef, .pointer (some ⟨w.heap.size, 0, none⟩), .bool false, .pointer (some ⟨ca, 0, none⟩), .int .i64 (k : Int), .int .u64 G, .int .u64 P, u8, .string s, .bool true, .bool false, undef, .string ts, .int .i64 (ts.size : Int), .bool true, .string ts, .int .i64 (ts.size : Int), .int .i64 (k : Int), .int .i64 (k : Int), .int .i64 (k : Int), .bool false, u22, u23, u24, u25, u26, u27, u28, u29, u30, u31, u32, u33, .agg #[.int .u64 x, .slice p l c], .int .u64 P, .agg #[.int .u64 P, .slice none 0 0], .agg #[.int .u64 xm, .slice pm lm cm], .int .u64 G, .agg #[.int .u64 G, .slice none 0 0], .agg #[.int .u64 xr, .slice pr lr2 cr2], u41, u42, u43, undef], defers := [] } W := by
              intro W xm pm lm cm hm xr pr lr2 cr2 hr hV hVr hBW
              rw [← hR]
              refine wpAnyIn_done (by kernel_rfl) ?_ _
              clear vr0 vr1 va0 va1 vf0 vf1 va2 va3
              go_wp2_with fail
              go_roundg (ts.extract k ts.size).size
              case measure => have := Hg.out; rw [ByteArray.size_extract]; omega
              case rel => exact ⟨_, m + k, rfl, rfl, by rw [ByteArray.size_extract]; omega, fun j => by rw [dg_rest n3, Hdg.out, Nat.add_assoc], hVr, hBW, _, _, _, _, hV, by rw [Hcut.out]; exact hr⟩
            have H11111110 : ∀ (W : World) (xm : Int) (pm : Option Addr) (lm cm : Nat) (hm : IsNat W (.agg #[.int .u64 xm, .slice pm lm cm]) (A * P)) (xr : Int) (pr : Option Addr) (lr2 cr2 : Nat) (hr : IsNat W (.agg #[.int .u64 xr, .slice pr lr2 cr2]) (A * P + G)) (acc : Below wr.heap.size wr W), R 1 #[true, true, true, true, true, true, true, false] { tmps := #[.string ts, undef, .pointer (some ⟨w.heap.size, 0, none⟩), .bool false, .pointer (some ⟨ca, 0, none⟩), .int .i64 (k : Int), .int .u64 G, .int .u64 P, u8, .string s, .bool true, .bool false, undef, .string ts, .int .i64 (ts.size : Int), .bool true, .string ts, .int .i64 (ts.size : Int), .int .i64 (k : Int), .int .i64 (k : Int), .int .i64 (k : Int), .bool false, u22, u23, u24, u25, u26, u27, u28, u29, u30, u31, u32, u33, .agg #[.int .u64 x, .slice p l c], .int .u64 P, .agg #[.int .u64 P, .slice none 0 0], .agg #[.int .u64 xm, .slice pm lm cm], .int .u64 G, .agg #[.int .u64 G, .slice none 0 0], .agg #[.int .u64 xr, .slice pr lr2 cr2], u41, u42, u43, undef], defers := [] } W := by
              intro W xm pm lm cm hm xr pr lr2 cr2 hr acc
              rw [← hR]
              have va0 := (va.below acc la).c0
              have va1 := (va.below acc la).c1
              have va2 := (va.below acc la).free 0
              have va3 := (va.below acc la).free 1
              refine wpAnyIn_ready (rs := [7]) (by kernel_rfl) (by simp) ?_
              refine AllReadyIn.cons rfl (fun K hK => ?_) ?_
              · go_simp
                refine hK _ _ ?_
                have h := H11111111 ((W.setCell ⟨ca, 0, none⟩ (.int .u64 xr)).setCell ⟨ca, 1, none⟩ (.slice pr lr2 cr2)) xm pm lm cm (hm.two (va.below acc la) _ _) xr pr lr2 cr2 (hr.two (va.below acc la) _ _) ((va.below acc la).set (.int .u64 xr) pr lr2 cr2) (((vr.below acc lr).other hne _).other hne _) (below_two (hB.trans (acc.mono hB.size)) hca _ _)
                rw [← hR] at h
                exact h
              exact AllReadyIn.nil
            have H11111100 : ∀ (W : World) (xm : Int) (pm : Option Addr) (lm cm : Nat) (hm : IsNat W (.agg #[.int .u64 xm, .slice pm lm cm]) (A * P)) (acc : Below wr.heap.size wr W), R 2 #[true, true, true, true, true, true, false, false] { tmps := #[.string ts, undef, .pointer (some ⟨w.heap.size, 0, none⟩), .bool false, .pointer (some ⟨ca, 0, none⟩), .int .i64 (k : Int), .int .u64 G, .int .u64 P, u8, .string s, .bool true, .bool false, undef, .string ts, .int .i64 (ts.size : Int), .bool true, .string ts, .int .i64 (ts.size : Int), .int .i64 (k : Int), .int .i64 (k : Int), .int .i64 (k : Int), .bool false, u22, u23, u24, u25, u26, u27, u28, u29, u30, u31, u32, u33, .agg #[.int .u64 x, .slice p l c], .int .u64 P, .agg #[.int .u64 P, .slice none 0 0], .agg #[.int .u64 xm, .slice pm lm cm], .int .u64 G, .agg #[.int .u64 G, .slice none 0 0], u40, u41, u42, u43, undef], defers := [] } W := by
              intro W xm pm lm cm hm acc
              rw [← hR]
              have va0 := (va.below acc la).c0
              have va1 := (va.below acc la).c1
              have va2 := (va.below acc la).free 0
              have va3 := (va.below acc la).free 1
              refine wpAnyIn_ready (rs := [6]) (by kernel_rfl) (by simp) ?_
              refine AllReadyIn.cons rfl (fun K hK => ?_) ?_
              · go_simp
                gi_wp2_with (refine ⟨trivial, ?_⟩; gi_at_call 41; refine (callsIn_wide.2 (add_any KB K3 _ _ (A * P) G W hm (IsNat.word HwG.out) E3.out E4.out)).mono ?_; rintro e W2 ⟨vr2, rfl, hr, hb⟩; obtain ⟨xr, pr, lr2, cr2, rfl⟩ := hr.shape)
                have h := H11111110 W2 xm pm lm cm (hm.below hb) xr pr lr2 cr2 hr (below_acc acc acc.size hb)
                rw [← hR] at h
                exact h
              exact AllReadyIn.nil
            have H11111000 : ∀ (W : World) (xm : Int) (pm : Option Addr) (lm cm : Nat) (hm : IsNat W (.agg #[.int .u64 xm, .slice pm lm cm]) (A * P)) (acc : Below wr.heap.size wr W), R 3 #[true, true, true, true, true, false, false, false] { tmps := #[.string ts, undef, .pointer (some ⟨w.heap.size, 0, none⟩), .bool false, .pointer (some ⟨ca, 0, none⟩), .int .i64 (k : Int), .int .u64 G, .int .u64 P, u8, .string s, .bool true, .bool false, undef, .string ts, .int .i64 (ts.size : Int), .bool true, .string ts, .int .i64 (ts.size : Int), .int .i64 (k : Int), .int .i64 (k : Int), .int .i64 (k : Int), .bool false, u22, u23, u24, u25, u26, u27, u28, u29, u30, u31, u32, u33, .agg #[.int .u64 x, .slice p l c], .int .u64 P, .agg #[.int .u64 P, .slice none 0 0], .agg #[.int .u64 xm, .slice pm lm cm], .int .u64 G, u39, u40, u41, u42, u43, undef], defers := [] } W := by
              intro W xm pm lm cm hm acc
              rw [← hR]
              have va0 := (va.below acc la).c0
              have va1 := (va.below acc la).c1
              have va2 := (va.below acc la).free 0
              have va3 := (va.below acc la).free 1
              refine wpAnyIn_ready (rs := [5]) (by kernel_rfl) (by simp) ?_
              refine AllReadyIn.cons rfl (fun K hK => ?_) ?_
              · go_simp
                gi_wp2_with (refine ⟨trivial, ?_⟩; gi_at_call 39; refine (callsIn_wide.2 (of_any G W)).mono ?_; rintro e W2 ⟨rfl, hb⟩; skip)
                have h := H11111100 W2 xm pm lm cm (hm.below hb) (below_acc acc acc.size hb)
                rw [← hR] at h
                exact h
              exact AllReadyIn.nil
            have H11110000 : ∀ (W : World) (xm : Int) (pm : Option Addr) (lm cm : Nat) (hm : IsNat W (.agg #[.int .u64 xm, .slice pm lm cm]) (A * P)) (acc : Below wr.heap.size wr W), R 4 #[true, true, true, true, false, false, false, false] { tmps := #[.string ts, undef, .pointer (some ⟨w.heap.size, 0, none⟩), .bool false, .pointer (some ⟨ca, 0, none⟩), .int .i64 (k : Int), .int .u64 G, .int .u64 P, u8, .string s, .bool true, .bool false, undef, .string ts, .int .i64 (ts.size : Int), .bool true, .string ts, .int .i64 (ts.size : Int), .int .i64 (k : Int), .int .i64 (k : Int), .int .i64 (k : Int), .bool false, u22, u23, u24, u25, u26, u27, u28, u29, u30, u31, u32, u33, .agg #[.int .u64 x, .slice p l c], .int .u64 P, .agg #[.int .u64 P, .slice none 0 0], .agg #[.int .u64 xm, .slice pm lm cm], u38, u39, u40, u41, u42, u43, undef], defers := [] } W := by
              intro W xm pm lm cm hm acc
              rw [← hR]
              have va0 := (va.below acc la).c0
              have va1 := (va.below acc la).c1
              have va2 := (va.below acc la).free 0
              have va3 := (va.below acc la).free 1
              refine wpAnyIn_ready (rs := [4]) (by kernel_rfl) (by simp) ?_
              refine AllReadyIn.cons rfl (fun K hK => ?_) ?_
              · go_simp
                refine hK _ _ ?_
                have h := H11111000 W xm pm lm cm hm acc
                rw [← hR] at h
                exact h
              exact AllReadyIn.nil
            have H11101000 : ∀ (W : World) (acc : Below wr.heap.size wr W), R 4 #[true, true, true, false, true, false, false, false] { tmps := #[.string ts, undef, .pointer (some ⟨w.heap.size, 0, none⟩), .bool false, .pointer (some ⟨ca, 0, none⟩), .int .i64 (k : Int), .int .u64 G, .int .u64 P, u8, .string s, .bool true, .bool false, undef, .string ts, .int .i64 (ts.size : Int), .bool true, .string ts, .int .i64 (ts.size : Int), .int .i64 (k : Int), .int .i64 (k : Int), .int .i64 (k : Int), .bool false, u22, u23, u24, u25, u26, u27, u28, u29, u30, u31, u32, u33, .agg #[.int .u64 x, .slice p l c], .int .u64 P, .agg #[.int .u64 P, .slice none 0 0], u37, .int .u64 G, u39, u40, u41, u42, u43, undef], defers := [] } W := by
              intro W acc
              rw [← hR]
              have va0 := (va.below acc la).c0
              have va1 := (va.below acc la).c1
              have va2 := (va.below acc la).free 0
              have va3 := (va.below acc la).free 1
              refine wpAnyIn_ready (rs := [3]) (by kernel_rfl) (by simp) ?_
              refine AllReadyIn.cons rfl (fun K hK => ?_) ?_
              · go_simp
                gi_wp2_with (refine ⟨trivial, ?_⟩; gi_at_call 65; refine (callsIn_wide.2 (mul_any KB K1 K2 _ _ A P W (ha.below acc) (IsNat.word HwP.out) E1.out E2.out)).mono ?_; rintro e W2 ⟨vm, rfl, hm, hb⟩; obtain ⟨xm, pm, lm, cm, rfl⟩ := hm.shape)
                have h := H11111000 W2 xm pm lm cm hm (below_acc acc acc.size hb)
                rw [← hR] at h
                exact h
              exact AllReadyIn.nil
            have H11100000 : ∀ (W : World) (acc : Below wr.heap.size wr W), R 5 #[true, true, true, false, false, false, false, false] { tmps := #[.string ts, undef, .pointer (some ⟨w.heap.size, 0, none⟩), .bool false, .pointer (some ⟨ca, 0, none⟩), .int .i64 (k : Int), .int .u64 G, .int .u64 P, u8, .string s, .bool true, .bool false, undef, .string ts, .int .i64 (ts.size : Int), .bool true, .string ts, .int .i64 (ts.size : Int), .int .i64 (k : Int), .int .i64 (k : Int), .int .i64 (k : Int), .bool false, u22, u23, u24, u25, u26, u27, u28, u29, u30, u31, u32, u33, .agg #[.int .u64 x, .slice p l c], .int .u64 P, .agg #[.int .u64 P, .slice none 0 0], u37, u38, u39, u40, u41, u42, u43, undef], defers := [] } W := by
              intro W acc
              rw [← hR]
              have va0 := (va.below acc la).c0
              have va1 := (va.below acc la).c1
              have va2 := (va.below acc la).free 0
              have va3 := (va.below acc la).free 1
              refine wpAnyIn_ready (rs := [3, 4]) (by kernel_rfl) (by simp) ?_
              refine AllReadyIn.cons rfl (fun K hK => ?_) ?_
              · go_simp
                gi_wp2_with (refine ⟨trivial, ?_⟩; gi_at_call 65; refine (callsIn_wide.2 (mul_any KB K1 K2 _ _ A P W (ha.below acc) (IsNat.word HwP.out) E1.out E2.out)).mono ?_; rintro e W2 ⟨vm, rfl, hm, hb⟩; obtain ⟨xm, pm, lm, cm, rfl⟩ := hm.shape)
                have h := H11110000 W2 xm pm lm cm hm (below_acc acc acc.size hb)
                rw [← hR] at h
                exact h
              refine AllReadyIn.cons rfl (fun K hK => ?_) ?_
              · go_simp
                refine hK _ _ ?_
                have h := H11101000 W acc
                rw [← hR] at h
                exact h
              exact AllReadyIn.nil
            have H11001000 : ∀ (W : World) (acc : Below wr.heap.size wr W), R 5 #[true, true, false, false, true, false, false, false] { tmps := #[.string ts, undef, .pointer (some ⟨w.heap.size, 0, none⟩), .bool false, .pointer (some ⟨ca, 0, none⟩), .int .i64 (k : Int), .int .u64 G, .int .u64 P, u8, .string s, .bool true, .bool false, undef, .string ts, .int .i64 (ts.size : Int), .bool true, .string ts, .int .i64 (ts.size : Int), .int .i64 (k : Int), .int .i64 (k : Int), .int .i64 (k : Int), .bool false, u22, u23, u24, u25, u26, u27, u28, u29, u30, u31, u32, u33, .agg #[.int .u64 x, .slice p l c], .int .u64 P, u36, u37, .int .u64 G, u39, u40, u41, u42, u43, undef], defers := [] } W := by
              intro W acc
              rw [← hR]
              have va0 := (va.below acc la).c0
              have va1 := (va.below acc la).c1
              have va2 := (va.below acc la).free 0
              have va3 := (va.below acc la).free 1
              refine wpAnyIn_ready (rs := [2]) (by kernel_rfl) (by simp) ?_
              refine AllReadyIn.cons rfl (fun K hK => ?_) ?_
              · go_simp
                gi_wp2_with (refine ⟨trivial, ?_⟩; gi_at_call 39; refine (callsIn_wide.2 (of_any P W)).mono ?_; rintro e W2 ⟨rfl, hb⟩; skip)
                have h := H11101000 W2 (below_acc acc acc.size hb)
                rw [← hR] at h
                exact h
              exact AllReadyIn.nil
            have H11000000 : ∀ (W : World) (acc : Below wr.heap.size wr W), R 6 #[true, true, false, false, false, false, false, false] { tmps := #[.string ts, undef, .pointer (some ⟨w.heap.size, 0, none⟩), .bool false, .pointer (some ⟨ca, 0, none⟩), .int .i64 (k : Int), .int .u64 G, .int .u64 P, u8, .string s, .bool true, .bool false, undef, .string ts, .int .i64 (ts.size : Int), .bool true, .string ts, .int .i64 (ts.size : Int), .int .i64 (k : Int), .int .i64 (k : Int), .int .i64 (k : Int), .bool false, u22, u23, u24, u25, u26, u27, u28, u29, u30, u31, u32, u33, .agg #[.int .u64 x, .slice p l c], .int .u64 P, u36, u37, u38, u39, u40, u41, u42, u43, undef], defers := [] } W := by
              intro W acc
              rw [← hR]
              have va0 := (va.below acc la).c0
              have va1 := (va.below acc la).c1
              have va2 := (va.below acc la).free 0
              have va3 := (va.below acc la).free 1
              refine wpAnyIn_ready (rs := [2, 4]) (by kernel_rfl) (by simp) ?_
              refine AllReadyIn.cons rfl (fun K hK => ?_) ?_
              · go_simp
                gi_wp2_with (refine ⟨trivial, ?_⟩; gi_at_call 39; refine (callsIn_wide.2 (of_any P W)).mono ?_; rintro e W2 ⟨rfl, hb⟩; skip)
                have h := H11100000 W2 (below_acc acc acc.size hb)
                rw [← hR] at h
                exact h
              refine AllReadyIn.cons rfl (fun K hK => ?_) ?_
              · go_simp
                refine hK _ _ ?_
                have h := H11001000 W acc
                rw [← hR] at h
                exact h
              exact AllReadyIn.nil
            have H10001000 : ∀ (W : World) (acc : Below wr.heap.size wr W), R 6 #[true, false, false, false, true, false, false, false] { tmps := #[.string ts, undef, .pointer (some ⟨w.heap.size, 0, none⟩), .bool false, .pointer (some ⟨ca, 0, none⟩), .int .i64 (k : Int), .int .u64 G, .int .u64 P, u8, .string s, .bool true, .bool false, undef, .string ts, .int .i64 (ts.size : Int), .bool true, .string ts, .int .i64 (ts.size : Int), .int .i64 (k : Int), .int .i64 (k : Int), .int .i64 (k : Int), .bool false, u22, u23, u24, u25, u26, u27, u28, u29, u30, u31, u32, u33, .agg #[.int .u64 x, .slice p l c], u35, u36, u37, .int .u64 G, u39, u40, u41, u42, u43, undef], defers := [] } W := by
              intro W acc
              rw [← hR]
              have va0 := (va.below acc la).c0
              have va1 := (va.below acc la).c1
              have va2 := (va.below acc la).free 0
              have va3 := (va.below acc la).free 1
              refine wpAnyIn_ready (rs := [1]) (by kernel_rfl) (by simp) ?_
              refine AllReadyIn.cons rfl (fun K hK => ?_) ?_
              · go_simp
                refine hK _ _ ?_
                have h := H11001000 W acc
                rw [← hR] at h
                exact h
              exact AllReadyIn.nil
            have H10000000 : ∀ (W : World) (acc : Below wr.heap.size wr W), R 7 #[true, false, false, false, false, false, false, false] { tmps := #[.string ts, undef, .pointer (some ⟨w.heap.size, 0, none⟩), .bool false, .pointer (some ⟨ca, 0, none⟩), .int .i64 (k : Int), .int .u64 G, .int .u64 P, u8, .string s, .bool true, .bool false, undef, .string ts, .int .i64 (ts.size : Int), .bool true, .string ts, .int .i64 (ts.size : Int), .int .i64 (k : Int), .int .i64 (k : Int), .int .i64 (k : Int), .bool false, u22, u23, u24, u25, u26, u27, u28, u29, u30, u31, u32, u33, .agg #[.int .u64 x, .slice p l c], u35, u36, u37, u38, u39, u40, u41, u42, u43, undef], defers := [] } W := by
              intro W acc
              rw [← hR]
              have va0 := (va.below acc la).c0
              have va1 := (va.below acc la).c1
              have va2 := (va.below acc la).free 0
              have va3 := (va.below acc la).free 1
              refine wpAnyIn_ready (rs := [1, 4]) (by kernel_rfl) (by simp) ?_
              refine AllReadyIn.cons rfl (fun K hK => ?_) ?_
              · go_simp
                refine hK _ _ ?_
                have h := H11000000 W acc
                rw [← hR] at h
                exact h
              refine AllReadyIn.cons rfl (fun K hK => ?_) ?_
              · go_simp
                refine hK _ _ ?_
                have h := H10001000 W acc
                rw [← hR] at h
                exact h
              exact AllReadyIn.nil
            have H01101000 : ∀ (W : World) (acc : Below wr.heap.size wr W), R 5 #[false, true, true, false, true, false, false, false] { tmps := #[.string ts, undef, .pointer (some ⟨w.heap.size, 0, none⟩), .bool false, .pointer (some ⟨ca, 0, none⟩), .int .i64 (k : Int), .int .u64 G, .int .u64 P, u8, .string s, .bool true, .bool false, undef, .string ts, .int .i64 (ts.size : Int), .bool true, .string ts, .int .i64 (ts.size : Int), .int .i64 (k : Int), .int .i64 (k : Int), .int .i64 (k : Int), .bool false, u22, u23, u24, u25, u26, u27, u28, u29, u30, u31, u32, u33, u34, .int .u64 P, .agg #[.int .u64 P, .slice none 0 0], u37, .int .u64 G, u39, u40, u41, u42, u43, undef], defers := [] } W := by
              intro W acc
              rw [← hR]
              have va0 := (va.below acc la).c0
              have va1 := (va.below acc la).c1
              have va2 := (va.below acc la).free 0
              have va3 := (va.below acc la).free 1
              refine wpAnyIn_ready (rs := [0]) (by kernel_rfl) (by simp) ?_
              refine AllReadyIn.cons rfl (fun K hK => ?_) ?_
              · go_simp
                refine hK _ _ ?_
                have h := H11101000 W acc
                rw [← hR] at h
                exact h
              exact AllReadyIn.nil
            have H01100000 : ∀ (W : World) (acc : Below wr.heap.size wr W), R 6 #[false, true, true, false, false, false, false, false] { tmps := #[.string ts, undef, .pointer (some ⟨w.heap.size, 0, none⟩), .bool false, .pointer (some ⟨ca, 0, none⟩), .int .i64 (k : Int), .int .u64 G, .int .u64 P, u8, .string s, .bool true, .bool false, undef, .string ts, .int .i64 (ts.size : Int), .bool true, .string ts, .int .i64 (ts.size : Int), .int .i64 (k : Int), .int .i64 (k : Int), .int .i64 (k : Int), .bool false, u22, u23, u24, u25, u26, u27, u28, u29, u30, u31, u32, u33, u34, .int .u64 P, .agg #[.int .u64 P, .slice none 0 0], u37, u38, u39, u40, u41, u42, u43, undef], defers := [] } W := by
              intro W acc
              rw [← hR]
              have va0 := (va.below acc la).c0
              have va1 := (va.below acc la).c1
              have va2 := (va.below acc la).free 0
              have va3 := (va.below acc la).free 1
              refine wpAnyIn_ready (rs := [0, 4]) (by kernel_rfl) (by simp) ?_
              refine AllReadyIn.cons rfl (fun K hK => ?_) ?_
              · go_simp
                refine hK _ _ ?_
                have h := H11100000 W acc
                rw [← hR] at h
                exact h
              refine AllReadyIn.cons rfl (fun K hK => ?_) ?_
              · go_simp
                refine hK _ _ ?_
                have h := H01101000 W acc
                rw [← hR] at h
                exact h
              exact AllReadyIn.nil
            have H01001000 : ∀ (W : World) (acc : Below wr.heap.size wr W), R 6 #[false, true, false, false, true, false, false, false] { tmps := #[.string ts, undef, .pointer (some ⟨w.heap.size, 0, none⟩), .bool false, .pointer (some ⟨ca, 0, none⟩), .int .i64 (k : Int), .int .u64 G, .int .u64 P, u8, .string s, .bool true, .bool false, undef, .string ts, .int .i64 (ts.size : Int), .bool true, .string ts, .int .i64 (ts.size : Int), .int .i64 (k : Int), .int .i64 (k : Int), .int .i64 (k : Int), .bool false, u22, u23, u24, u25, u26, u27, u28, u29, u30, u31, u32, u33, u34, .int .u64 P, u36, u37, .int .u64 G, u39, u40, u41, u42, u43, undef], defers := [] } W := by
              intro W acc
              rw [← hR]
              have va0 := (va.below acc la).c0
              have va1 := (va.below acc la).c1
              have va2 := (va.below acc la).free 0
              have va3 := (va.below acc la).free 1
              refine wpAnyIn_ready (rs := [0, 2]) (by kernel_rfl) (by simp) ?_
              refine AllReadyIn.cons rfl (fun K hK => ?_) ?_
              · go_simp
                refine hK _ _ ?_
                have h := H11001000 W acc
                rw [← hR] at h
                exact h
              refine AllReadyIn.cons rfl (fun K hK => ?_) ?_
              · go_simp
                gi_wp2_with (refine ⟨trivial, ?_⟩; gi_at_call 39; refine (callsIn_wide.2 (of_any P W)).mono ?_; rintro e W2 ⟨rfl, hb⟩; skip)
                have h := H01101000 W2 (below_acc acc acc.size hb)
                rw [← hR] at h
                exact h
              exact AllReadyIn.nil
            have H01000000 : ∀ (W : World) (acc : Below wr.heap.size wr W), R 7 #[false, true, false, false, false, false, false, false] { tmps := #[.string ts, undef, .pointer (some ⟨w.heap.size, 0, none⟩), .bool false, .pointer (some ⟨ca, 0, none⟩), .int .i64 (k : Int), .int .u64 G, .int .u64 P, u8, .string s, .bool true, .bool false, undef, .string ts, .int .i64 (ts.size : Int), .bool true, .string ts, .int .i64 (ts.size : Int), .int .i64 (k : Int), .int .i64 (k : Int), .int .i64 (k : Int), .bool false, u22, u23, u24, u25, u26, u27, u28, u29, u30, u31, u32, u33, u34, .int .u64 P, u36, u37, u38, u39, u40, u41, u42, u43, undef], defers := [] } W := by
              intro W acc
              rw [← hR]
              have va0 := (va.below acc la).c0
              have va1 := (va.below acc la).c1
              have va2 := (va.below acc la).free 0
              have va3 := (va.below acc la).free 1
              refine wpAnyIn_ready (rs := [0, 2, 4]) (by kernel_rfl) (by simp) ?_
              refine AllReadyIn.cons rfl (fun K hK => ?_) ?_
              · go_simp
                refine hK _ _ ?_
                have h := H11000000 W acc
                rw [← hR] at h
                exact h
              refine AllReadyIn.cons rfl (fun K hK => ?_) ?_
              · go_simp
                gi_wp2_with (refine ⟨trivial, ?_⟩; gi_at_call 39; refine (callsIn_wide.2 (of_any P W)).mono ?_; rintro e W2 ⟨rfl, hb⟩; skip)
                have h := H01100000 W2 (below_acc acc acc.size hb)
                rw [← hR] at h
                exact h
              refine AllReadyIn.cons rfl (fun K hK => ?_) ?_
              · go_simp
                refine hK _ _ ?_
                have h := H01001000 W acc
                rw [← hR] at h
                exact h
              exact AllReadyIn.nil
            have H00001000 : ∀ (W : World) (acc : Below wr.heap.size wr W), R 7 #[false, false, false, false, true, false, false, false] { tmps := #[.string ts, undef, .pointer (some ⟨w.heap.size, 0, none⟩), .bool false, .pointer (some ⟨ca, 0, none⟩), .int .i64 (k : Int), .int .u64 G, .int .u64 P, u8, .string s, .bool true, .bool false, undef, .string ts, .int .i64 (ts.size : Int), .bool true, .string ts, .int .i64 (ts.size : Int), .int .i64 (k : Int), .int .i64 (k : Int), .int .i64 (k : Int), .bool false, u22, u23, u24, u25, u26, u27, u28, u29, u30, u31, u32, u33, u34, u35, u36, u37, .int .u64 G, u39, u40, u41, u42, u43, undef], defers := [] } W := by
              intro W acc
              rw [← hR]
              have va0 := (va.below acc la).c0
              have va1 := (va.below acc la).c1
              have va2 := (va.below acc la).free 0
              have va3 := (va.below acc la).free 1
              refine wpAnyIn_ready (rs := [0, 1]) (by kernel_rfl) (by simp) ?_
              refine AllReadyIn.cons rfl (fun K hK => ?_) ?_
              · go_simp
                refine hK _ _ ?_
                have h := H10001000 W acc
                rw [← hR] at h
                exact h
              refine AllReadyIn.cons rfl (fun K hK => ?_) ?_
              · go_simp
                refine hK _ _ ?_
                have h := H01001000 W acc
                rw [← hR] at h
                exact h
              exact AllReadyIn.nil
            have H00000000 : ∀ (W : World) (acc : Below wr.heap.size wr W), R 8 #[false, false, false, false, false, false, false, false] { tmps := #[.string ts, undef, .pointer (some ⟨w.heap.size, 0, none⟩), .bool false, .pointer (some ⟨ca, 0, none⟩), .int .i64 (k : Int), .int .u64 G, .int .u64 P, u8, .string s, .bool true, .bool false, undef, .string ts, .int .i64 (ts.size : Int), .bool true, .string ts, .int .i64 (ts.size : Int), .int .i64 (k : Int), .int .i64 (k : Int), .int .i64 (k : Int), .bool false, u22, u23, u24, u25, u26, u27, u28, u29, u30, u31, u32, u33, u34, u35, u36, u37, u38, u39, u40, u41, u42, u43, undef], defers := [] } W := by
              intro W acc
              rw [← hR]
              have va0 := (va.below acc la).c0
              have va1 := (va.below acc la).c1
              have va2 := (va.below acc la).free 0
              have va3 := (va.below acc la).free 1
              refine wpAnyIn_ready (rs := [0, 1, 4]) (by kernel_rfl) (by simp) ?_
              refine AllReadyIn.cons rfl (fun K hK => ?_) ?_
              · go_simp
                refine hK _ _ ?_
                have h := H10000000 W acc
                rw [← hR] at h
                exact h
              refine AllReadyIn.cons rfl (fun K hK => ?_) ?_
              · go_simp
                refine hK _ _ ?_
                have h := H01000000 W acc
                rw [← hR] at h
                exact h
              refine AllReadyIn.cons rfl (fun K hK => ?_) ?_
              · go_simp
                refine hK _ _ ?_
                have h := H00001000 W acc
                rw [← hR] at h
                exact h
              exact AllReadyIn.nil
            exact H00000000 wr.drew (Below.refl _ wr).drew
  · have c0 := vr.c0
    have c1 := vr.c1
    have f0 := vr.free 0
    have f1 := vr.free 1
    go_wp2_with fail
    have u := vr.set (.int .u64 0) none 0 0
    refine bodyPost_ret (v := .tuple #[.agg #[.int .u64 0, .slice none 0 0], .bool false]) ?_ rfl (.inr ⟨hd, rfl, below_two hB1 (Nat.le_refl _) _ _⟩)
    simp [results, Tryz.results44, asAddr, run_loadVar_nat u]
end Go.Proofs.YtogildikglomkaaGreatDoor
