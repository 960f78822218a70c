/- Contract of the document's NatParse. -/
import Derived.Test.YtjoppmkknbpjbaaGreatDoorRefPow
import Derived.Test.YtjoppmkknbpjbaaGreatDoorKnown
import Derived.Test.YtjoppmkknbpjbaaGreatDoorBack
import Derived.Deep.LoopGhost
namespace Go.Proofs.YtjoppmkknbpjbaaGreatDoor
open Go.RowKit
set_option linter.unusedVariables false

/-- The digit at k. -/
def dg (s : ByteArray) (k : Nat) : Int := if h : k < s.size then (s[k].toNat : Int) - 48 else 0
theorem dg_eq {s : ByteArray} {k : Nat} (h : k < s.size) : dg s k = (s[k].toNat : Int) - 48 := dif_pos h
/-- The number of the first k digits. -/
def decTo (s : ByteArray) : Nat → Int
  | 0 => 0
  | k + 1 => decTo s k * 10 + dg s k
/-- A digit. -/
def Dig (x : Int) : Prop := 0 ≤ x ∧ x ≤ 9
/-- A number's text. -/
def IsDec (s : ByteArray) : Prop := 1 ≤ s.size ∧ s.size ≤ 200 ∧ (∀ k, k < s.size → Dig (dg s k)) ∧ (s.size = 1 ∨ dg s 0 ≠ 0)
theorem decTo_bd {s : ByteArray} : ∀ {k : Nat}, (∀ j, j < k → Dig (dg s j)) → 0 ≤ decTo s k ∧ decTo s k < lpw k
  | 0, _ => by simp [decTo, lpw]
  | k + 1, h => by
    obtain ⟨h1, h2⟩ := decTo_bd (s := s) (k := k) (fun j hj => h j (by omega))
    obtain ⟨h3, h4⟩ := h k (by omega)
    simp only [decTo, lpw]
    constructor <;> omega
theorem num_nil (w : World) : IsNum w (.slice none 0 0) 0 := ⟨[], .inl ⟨rfl, rfl⟩, fun h => absurd rfl h, rfl⟩
theorem num_ten (W : World) : IsNum (W.alloc (.cells #[.int .u32 10] 53)) (.slice (some ⟨W.heap.size, 0, none⟩) 1 1) 10 := by
  have := isNum_arr (len := 1) (cap := 1) (Arr.new W 53 .u32 [10] W.heap.size rfl) (by simp) (by omega) (fun x hx => by simp at hx; subst hx; exact ⟨by decide, by decide⟩) (fun _ => by decide)
  simpa [lval] using this
/-- What NatParse answers. -/
def RetParse (s : ByteArray) (w : World) (e : Ending) (w' : World) : Prop := (IsDec s ∧ ∃ v, e = .returned (.tuple #[v, .bool true]) ∧ IsNum w' v (decTo s s.size) ∧ Below w.heap.size w w') ∨ (¬ IsDec s ∧ e = .returned (.tuple #[.slice none 0 0, .bool false]) ∧ Below w.heap.size w w')

set_option maxRecDepth 100000 in
set_option maxHeartbeats 4000000 in
theorem natParse_any (s : ByteArray) (w : World) (hs : s.size ≤ 9223372036854775807) : Calls Tryz.prog 6 #[.string s] w (RetParse s w) := by
  go_enter Tryz.func6, Tryz.ntmps6
  by_cases h1 : s.size < 1
  · have n1 : ¬ IsDec s := fun h => by have := h.1; omega
    go_wp2_with fail
    go_ret2
    exact .inr ⟨n1, rfl, Below.refl _ _⟩
  by_cases h2 : 200 < s.size
  · have n1 : ¬ IsDec s := fun h => by have := h.2.1; omega
    go_wp2_with fail
    go_ret2
    exact .inr ⟨n1, rfl, Below.refl _ _⟩
  have h0 : 0 < s.size := by omega
  by_cases h3 : s[0].toNat = 48 ∧ 1 < s.size
  · obtain ⟨h3, h4⟩ := h3
    have n1 : ¬ IsDec s := fun h => by
      rcases h.2.2.2 with h | h
      · omega
      · exact h (by rw [dg_eq h0, h3]; rfl)
    go_wp2_with fail
    go_ret2
    exact .inr ⟨n1, rfl, Below.refl _ _⟩
  have H3 := Lib.hid h3
  clear h3
  by_cases h5 : s[0].toNat = 48
  · have h4 : ¬ 1 < s.size := fun h => H3.out ⟨h5, h⟩
    go_wp2_with fail
    clear h4
    clear h5
    go_loopg [4, 5] s.size (fun g o i wr => ∃ k : Nat, g = s.size - k ∧ k ≤ s.size ∧ i = .int .i64 k ∧ (∀ j, j < k → Dig (dg s j)) ∧ IsNum wr o (decTo s k) ∧ Below w.heap.size w wr)
    case atStart => exact ⟨0, rfl, Nat.zero_le _, rfl, fun j hj => by omega, num_nil _, Below.refl _ _⟩
    case round =>
      obtain ⟨k, hg, hk, rfl, hd, ho, hB⟩ := hrel
      have Hg := Lib.hid hg
      clear hg
      obtain ⟨po, lo, co, rfl⟩ := ho.shape
      have Hd := Lib.hid hd
      clear hd
      by_cases hlt : k < s.size
      · have hdk := dg_eq hlt
        by_cases c1 : s[k].toNat < 48
        · have n1 : ¬ IsDec s := fun h => by have := (h.2.2.1 k hlt).1; omega
          clear hdk
          go_wp2_with fail
          go_ret2
          exact .inr ⟨n1, rfl, hB⟩
        by_cases c2 : 57 < s[k].toNat
        · have n1 : ¬ IsDec s := fun h => by have := (h.2.2.1 k hlt).2; omega
          clear hdk
          go_wp2_with fail
          go_ret2
          exact .inr ⟨n1, rfl, hB⟩
        obtain ⟨c, hc⟩ : ∃ c, s[k].toNat = c := ⟨_, rfl⟩
        rw [hc] at c1 c2 hdk
        obtain ⟨D, hD⟩ : ∃ D, (c : Int) - 48 = D := ⟨_, rfl⟩
        rw [hD] at hdk
        have D0 : 0 ≤ D := by omega
        have D9 : D ≤ 9 := by omega
        have hbd := decTo_bd Hd.out
        obtain ⟨KB, hKB⟩ : ∃ KB, 1000 = KB := ⟨_, rfl⟩
        have e1 : decTo s k < lpw KB := by
          have := lpw_mono (a := k) (b := KB) (by omega)
          omega
        have e2 : decTo s k * 10 < lpw KB := by
          have h1 := lpw_mono (a := k + 1) (b := KB) (by omega)
          have : lpw (k + 1) = 4294967296 * lpw k := rfl
          omega
        have e3 : 10 < lpw KB := by
          have h1 := lpw_mono (a := 1) (b := KB) (by omega)
          have : lpw 1 = 4294967296 := rfl
          omega
        have e4 : D < lpw KB := by omega
        have K1 : KB ≤ 1048576 := by omega
        have E1 := Lib.hid e1
        have E2 := Lib.hid e2
        have E3 := Lib.hid e3
        have E4 := Lib.hid e4
        have Hdk := Lib.hid hdk
        have wD : Word D := ⟨D0, by omega⟩
        have HwD := Lib.hid wD
        have w64 : IntKind.u64.wrap D = D := by rw [IntKind.wrap_u64]; omega
        have w8 : IntKind.u8.wrap D = D := by rw [IntKind.wrap_u8]; omega
        clear hdk hbd e1 e2 e3 e4 hKB wD
        go_wp2_with fail
        refine wpIn_wide (n := 5) |>.1 ?_
        refine region_ways (by kernel_rfl) fun R hR => ?_
        have H11111111111 : ∀ (W : World) (acc : Below wr.heap.size wr W) (tb : Nat) (ht : IsNum W (.slice (some ⟨tb, 0, none⟩) 1 1) 10) (pm : Option Addr) (lm cm : Nat) (hm : IsNum W (.slice pm lm cm) (decTo s k * 10)) (pn : Option Addr) (ln cn : Nat) (hn : IsNum W (.slice pn ln cn) D) (pz : Option Addr) (lz cz : Nat) (hz : IsNum W (.slice pz lz cz) (decTo s k * 10 + D)), R 0 #[true, true, true, true, true, true, true, true, true, true, true] { tmps := #[.string s, undef, u2, u3, .slice pz lz cz, .int .i64 (k : Int), .string s, .int .i64 (s.size : Int), .bool (decide ((s.size : Int) < 1)), .bool (decide ((s.size : Int) < 1)), .string s, .int .i64 (s.size : Int), .bool (decide (200 < (s.size : Int))), .bool (decide ((s.size : Int) < 1) || decide (200 < (s.size : Int))), .bool (decide ((s.size : Int) < 1) || decide (200 < (s.size : Int))), .string s, .int .u8 48, .bool true, .bool true, .string s, .int .i64 (s.size : Int), .bool (decide (1 < (s.size : Int))), .bool (decide (1 < (s.size : Int))), .bool (decide ((s.size : Int) < 1) || decide (200 < (s.size : Int)) || decide (1 < (s.size : Int))), .int .i64 (k : Int), .string s, .int .i64 (s.size : Int), .bool true, u28, u29, .string s, .int .i64 (k : Int), .int .u8 (c : Int), .bool (decide ((c : Int) < 48)), .bool (decide ((c : Int) < 48)), .string s, .int .i64 (k : Int), .int .u8 (c : Int), .bool (decide (57 < (c : Int))), .bool (decide ((c : Int) < 48) || decide (57 < (c : Int))), .slice po lo co, .slice (some ⟨tb, 0, none⟩) 1 1, .slice pm lm cm, .string s, .int .i64 (k : Int), .int .u8 (c : Int), .int .u8 D, .int .u64 D, .slice pn ln cn, .slice pz lz cz, undef], defers := [] } W := by
          intro W acc tb ht pm lm cm hm pn ln cn hn pz lz cz hz
          rw [← hR]
          refine wpAnyIn_done (by kernel_rfl) ?_ _
          go_wp2_with fail
          go_roundg (s.size - (k + 1))
          case measure => have := Hg.out; omega
          case rel => exact ⟨k + 1, rfl, by omega, by go_num, fun j hj => by
              by_cases e : j = k
              · subst e
                rw [Hdk.out]
                exact ⟨D0, D9⟩
              · exact Hd.out j (by omega), by
              show IsNum W _ (decTo s k * 10 + dg s k)
              rw [Hdk.out]
              exact hz, hB.trans (acc.mono hB.size)⟩
        have H11111111110 : ∀ (W : World) (acc : Below wr.heap.size wr W) (tb : Nat) (ht : IsNum W (.slice (some ⟨tb, 0, none⟩) 1 1) 10) (pm : Option Addr) (lm cm : Nat) (hm : IsNum W (.slice pm lm cm) (decTo s k * 10)) (pn : Option Addr) (ln cn : Nat) (hn : IsNum W (.slice pn ln cn) D) (pz : Option Addr) (lz cz : Nat) (hz : IsNum W (.slice pz lz cz) (decTo s k * 10 + D)), R 1 #[true, true, true, true, true, true, true, true, true, true, false] { tmps := #[.string s, undef, u2, u3, .slice po lo co, .int .i64 (k : Int), .string s, .int .i64 (s.size : Int), .bool (decide ((s.size : Int) < 1)), .bool (decide ((s.size : Int) < 1)), .string s, .int .i64 (s.size : Int), .bool (decide (200 < (s.size : Int))), .bool (decide ((s.size : Int) < 1) || decide (200 < (s.size : Int))), .bool (decide ((s.size : Int) < 1) || decide (200 < (s.size : Int))), .string s, .int .u8 48, .bool true, .bool true, .string s, .int .i64 (s.size : Int), .bool (decide (1 < (s.size : Int))), .bool (decide (1 < (s.size : Int))), .bool (decide ((s.size : Int) < 1) || decide (200 < (s.size : Int)) || decide (1 < (s.size : Int))), .int .i64 (k : Int), .string s, .int .i64 (s.size : Int), .bool true, u28, u29, .string s, .int .i64 (k : Int), .int .u8 (c : Int), .bool (decide ((c : Int) < 48)), .bool (decide ((c : Int) < 48)), .string s, .int .i64 (k : Int), .int .u8 (c : Int), .bool (decide (57 < (c : Int))), .bool (decide ((c : Int) < 48) || decide (57 < (c : Int))), .slice po lo co, .slice (some ⟨tb, 0, none⟩) 1 1, .slice pm lm cm, .string s, .int .i64 (k : Int), .int .u8 (c : Int), .int .u8 D, .int .u64 D, .slice pn ln cn, .slice pz lz cz, undef], defers := [] } W := by
          intro W acc tb ht pm lm cm hm pn ln cn hn pz lz cz hz
          rw [← hR]
          refine wpAnyIn_ready (rs := [10]) (by kernel_rfl) (by simp) ?_
          refine AllReadyIn.cons rfl (fun K hK => ?_) ?_
          · go_simp
            refine hK _ _ ?_
            have h := H11111111111 W acc tb ht pm lm cm hm pn ln cn hn pz lz cz hz
            rw [← hR] at h
            exact h
          exact AllReadyIn.nil
        have H11111111100 : ∀ (W : World) (acc : Below wr.heap.size wr W) (tb : Nat) (ht : IsNum W (.slice (some ⟨tb, 0, none⟩) 1 1) 10) (pm : Option Addr) (lm cm : Nat) (hm : IsNum W (.slice pm lm cm) (decTo s k * 10)) (pn : Option Addr) (ln cn : Nat) (hn : IsNum W (.slice pn ln cn) D), R 2 #[true, true, true, true, true, true, true, true, true, false, false] { tmps := #[.string s, undef, u2, u3, .slice po lo co, .int .i64 (k : Int), .string s, .int .i64 (s.size : Int), .bool (decide ((s.size : Int) < 1)), .bool (decide ((s.size : Int) < 1)), .string s, .int .i64 (s.size : Int), .bool (decide (200 < (s.size : Int))), .bool (decide ((s.size : Int) < 1) || decide (200 < (s.size : Int))), .bool (decide ((s.size : Int) < 1) || decide (200 < (s.size : Int))), .string s, .int .u8 48, .bool true, .bool true, .string s, .int .i64 (s.size : Int), .bool (decide (1 < (s.size : Int))), .bool (decide (1 < (s.size : Int))), .bool (decide ((s.size : Int) < 1) || decide (200 < (s.size : Int)) || decide (1 < (s.size : Int))), .int .i64 (k : Int), .string s, .int .i64 (s.size : Int), .bool true, u28, u29, .string s, .int .i64 (k : Int), .int .u8 (c : Int), .bool (decide ((c : Int) < 48)), .bool (decide ((c : Int) < 48)), .string s, .int .i64 (k : Int), .int .u8 (c : Int), .bool (decide (57 < (c : Int))), .bool (decide ((c : Int) < 48) || decide (57 < (c : Int))), .slice po lo co, .slice (some ⟨tb, 0, none⟩) 1 1, .slice pm lm cm, .string s, .int .i64 (k : Int), .int .u8 (c : Int), .int .u8 D, .int .u64 D, .slice pn ln cn, u49, undef], defers := [] } W := by
          intro W acc tb ht pm lm cm hm pn ln cn hn
          rw [← hR]
          refine wpAnyIn_ready (rs := [9]) (by kernel_rfl) (by simp) ?_
          refine AllReadyIn.cons rfl (fun K hK => ?_) ?_
          · go_simp
            gi_wp2_with (refine ⟨trivial, ?_⟩; gi_at_call 24; refine (callsIn_wide.2 (natAdd_num KB K1 _ _ (decTo s k * 10) D W hm hn E2.out E4.out)).mono ?_; rintro e W2 ⟨vz, rfl, hz, hb⟩; obtain ⟨pz, lz, cz, rfl⟩ := hz.shape)
            have h := H11111111110 W2 (below_acc acc acc.size hb) tb (ht.below hb) pm lm cm (hm.below hb) pn ln cn (hn.below hb) pz lz cz hz
            rw [← hR] at h
            exact h
          exact AllReadyIn.nil
        have H11111111000 : ∀ (W : World) (acc : Below wr.heap.size wr W) (tb : Nat) (ht : IsNum W (.slice (some ⟨tb, 0, none⟩) 1 1) 10) (pm : Option Addr) (lm cm : Nat) (hm : IsNum W (.slice pm lm cm) (decTo s k * 10)), R 3 #[true, true, true, true, true, true, true, true, false, false, false] { tmps := #[.string s, undef, u2, u3, .slice po lo co, .int .i64 (k : Int), .string s, .int .i64 (s.size : Int), .bool (decide ((s.size : Int) < 1)), .bool (decide ((s.size : Int) < 1)), .string s, .int .i64 (s.size : Int), .bool (decide (200 < (s.size : Int))), .bool (decide ((s.size : Int) < 1) || decide (200 < (s.size : Int))), .bool (decide ((s.size : Int) < 1) || decide (200 < (s.size : Int))), .string s, .int .u8 48, .bool true, .bool true, .string s, .int .i64 (s.size : Int), .bool (decide (1 < (s.size : Int))), .bool (decide (1 < (s.size : Int))), .bool (decide ((s.size : Int) < 1) || decide (200 < (s.size : Int)) || decide (1 < (s.size : Int))), .int .i64 (k : Int), .string s, .int .i64 (s.size : Int), .bool true, u28, u29, .string s, .int .i64 (k : Int), .int .u8 (c : Int), .bool (decide ((c : Int) < 48)), .bool (decide ((c : Int) < 48)), .string s, .int .i64 (k : Int), .int .u8 (c : Int), .bool (decide (57 < (c : Int))), .bool (decide ((c : Int) < 48) || decide (57 < (c : Int))), .slice po lo co, .slice (some ⟨tb, 0, none⟩) 1 1, .slice pm lm cm, .string s, .int .i64 (k : Int), .int .u8 (c : Int), .int .u8 D, .int .u64 D, u48, u49, undef], defers := [] } W := by
          intro W acc tb ht pm lm cm hm
          rw [← hR]
          refine wpAnyIn_ready (rs := [8]) (by kernel_rfl) (by simp) ?_
          refine AllReadyIn.cons rfl (fun K hK => ?_) ?_
          · go_simp
            gi_wp2_with (refine ⟨trivial, ?_⟩; gi_at_call 26; refine (callsIn_wide.2 (natOf_num D HwD.out W)).mono ?_; rintro e W2 ⟨vn, rfl, hn, hb⟩; obtain ⟨pn, ln, cn, rfl⟩ := hn.shape)
            have h := H11111111100 W2 (below_acc acc acc.size hb) tb (ht.below hb) pm lm cm (hm.below hb) pn ln cn hn
            rw [← hR] at h
            exact h
          exact AllReadyIn.nil
        have H11111110000 : ∀ (W : World) (acc : Below wr.heap.size wr W) (tb : Nat) (ht : IsNum W (.slice (some ⟨tb, 0, none⟩) 1 1) 10) (pm : Option Addr) (lm cm : Nat) (hm : IsNum W (.slice pm lm cm) (decTo s k * 10)), R 4 #[true, true, true, true, true, true, true, false, false, false, false] { tmps := #[.string s, undef, u2, u3, .slice po lo co, .int .i64 (k : Int), .string s, .int .i64 (s.size : Int), .bool (decide ((s.size : Int) < 1)), .bool (decide ((s.size : Int) < 1)), .string s, .int .i64 (s.size : Int), .bool (decide (200 < (s.size : Int))), .bool (decide ((s.size : Int) < 1) || decide (200 < (s.size : Int))), .bool (decide ((s.size : Int) < 1) || decide (200 < (s.size : Int))), .string s, .int .u8 48, .bool true, .bool true, .string s, .int .i64 (s.size : Int), .bool (decide (1 < (s.size : Int))), .bool (decide (1 < (s.size : Int))), .bool (decide ((s.size : Int) < 1) || decide (200 < (s.size : Int)) || decide (1 < (s.size : Int))), .int .i64 (k : Int), .string s, .int .i64 (s.size : Int), .bool true, u28, u29, .string s, .int .i64 (k : Int), .int .u8 (c : Int), .bool (decide ((c : Int) < 48)), .bool (decide ((c : Int) < 48)), .string s, .int .i64 (k : Int), .int .u8 (c : Int), .bool (decide (57 < (c : Int))), .bool (decide ((c : Int) < 48) || decide (57 < (c : Int))), .slice po lo co, .slice (some ⟨tb, 0, none⟩) 1 1, .slice pm lm cm, .string s, .int .i64 (k : Int), .int .u8 (c : Int), .int .u8 D, u47, u48, u49, undef], defers := [] } W := by
          intro W acc tb ht pm lm cm hm
          rw [← hR]
          refine wpAnyIn_ready (rs := [7]) (by kernel_rfl) (by simp) ?_
          refine AllReadyIn.cons rfl (fun K hK => ?_) ?_
          · go_simp
            refine hK _ _ ?_
            have h := H11111111000 W acc tb ht pm lm cm hm
            rw [← hR] at h
            exact h
          exact AllReadyIn.nil
        have H11111100000 : ∀ (W : World) (acc : Below wr.heap.size wr W) (tb : Nat) (ht : IsNum W (.slice (some ⟨tb, 0, none⟩) 1 1) 10) (pm : Option Addr) (lm cm : Nat) (hm : IsNum W (.slice pm lm cm) (decTo s k * 10)), R 5 #[true, true, true, true, true, true, false, false, false, false, false] { tmps := #[.string s, undef, u2, u3, .slice po lo co, .int .i64 (k : Int), .string s, .int .i64 (s.size : Int), .bool (decide ((s.size : Int) < 1)), .bool (decide ((s.size : Int) < 1)), .string s, .int .i64 (s.size : Int), .bool (decide (200 < (s.size : Int))), .bool (decide ((s.size : Int) < 1) || decide (200 < (s.size : Int))), .bool (decide ((s.size : Int) < 1) || decide (200 < (s.size : Int))), .string s, .int .u8 48, .bool true, .bool true, .string s, .int .i64 (s.size : Int), .bool (decide (1 < (s.size : Int))), .bool (decide (1 < (s.size : Int))), .bool (decide ((s.size : Int) < 1) || decide (200 < (s.size : Int)) || decide (1 < (s.size : Int))), .int .i64 (k : Int), .string s, .int .i64 (s.size : Int), .bool true, u28, u29, .string s, .int .i64 (k : Int), .int .u8 (c : Int), .bool (decide ((c : Int) < 48)), .bool (decide ((c : Int) < 48)), .string s, .int .i64 (k : Int), .int .u8 (c : Int), .bool (decide (57 < (c : Int))), .bool (decide ((c : Int) < 48) || decide (57 < (c : Int))), .slice po lo co, .slice (some ⟨tb, 0, none⟩) 1 1, .slice pm lm cm, .string s, .int .i64 (k : Int), .int .u8 (c : Int), u46, u47, u48, u49, undef], defers := [] } W := by
          intro W acc tb ht pm lm cm hm
          rw [← hR]
          refine wpAnyIn_ready (rs := [6]) (by kernel_rfl) (by simp) ?_
          refine AllReadyIn.cons rfl (fun K hK => ?_) ?_
          · go_simp
            refine hK _ _ ?_
            have h := H11111110000 W acc tb ht pm lm cm hm
            rw [← hR] at h
            exact h
          exact AllReadyIn.nil
        have H11111000000 : ∀ (W : World) (acc : Below wr.heap.size wr W) (tb : Nat) (ht : IsNum W (.slice (some ⟨tb, 0, none⟩) 1 1) 10) (pm : Option Addr) (lm cm : Nat) (hm : IsNum W (.slice pm lm cm) (decTo s k * 10)), R 6 #[true, true, true, true, true, false, false, false, false, false, false] { tmps := #[.string s, undef, u2, u3, .slice po lo co, .int .i64 (k : Int), .string s, .int .i64 (s.size : Int), .bool (decide ((s.size : Int) < 1)), .bool (decide ((s.size : Int) < 1)), .string s, .int .i64 (s.size : Int), .bool (decide (200 < (s.size : Int))), .bool (decide ((s.size : Int) < 1) || decide (200 < (s.size : Int))), .bool (decide ((s.size : Int) < 1) || decide (200 < (s.size : Int))), .string s, .int .u8 48, .bool true, .bool true, .string s, .int .i64 (s.size : Int), .bool (decide (1 < (s.size : Int))), .bool (decide (1 < (s.size : Int))), .bool (decide ((s.size : Int) < 1) || decide (200 < (s.size : Int)) || decide (1 < (s.size : Int))), .int .i64 (k : Int), .string s, .int .i64 (s.size : Int), .bool true, u28, u29, .string s, .int .i64 (k : Int), .int .u8 (c : Int), .bool (decide ((c : Int) < 48)), .bool (decide ((c : Int) < 48)), .string s, .int .i64 (k : Int), .int .u8 (c : Int), .bool (decide (57 < (c : Int))), .bool (decide ((c : Int) < 48) || decide (57 < (c : Int))), .slice po lo co, .slice (some ⟨tb, 0, none⟩) 1 1, .slice pm lm cm, .string s, .int .i64 (k : Int), u45, u46, u47, u48, u49, undef], defers := [] } W := by
          intro W acc tb ht pm lm cm hm
          rw [← hR]
          refine wpAnyIn_ready (rs := [5]) (by kernel_rfl) (by simp) ?_
          refine AllReadyIn.cons rfl (fun K hK => ?_) ?_
          · go_simp
            refine hK _ _ ?_
            have h := H11111100000 W acc tb ht pm lm cm hm
            rw [← hR] at h
            exact h
          exact AllReadyIn.nil
        have H11110000000 : ∀ (W : World) (acc : Below wr.heap.size wr W) (tb : Nat) (ht : IsNum W (.slice (some ⟨tb, 0, none⟩) 1 1) 10) (pm : Option Addr) (lm cm : Nat) (hm : IsNum W (.slice pm lm cm) (decTo s k * 10)), R 7 #[true, true, true, true, false, false, false, false, false, false, false] { tmps := #[.string s, undef, u2, u3, .slice po lo co, .int .i64 (k : Int), .string s, .int .i64 (s.size : Int), .bool (decide ((s.size : Int) < 1)), .bool (decide ((s.size : Int) < 1)), .string s, .int .i64 (s.size : Int), .bool (decide (200 < (s.size : Int))), .bool (decide ((s.size : Int) < 1) || decide (200 < (s.size : Int))), .bool (decide ((s.size : Int) < 1) || decide (200 < (s.size : Int))), .string s, .int .u8 48, .bool true, .bool true, .string s, .int .i64 (s.size : Int), .bool (decide (1 < (s.size : Int))), .bool (decide (1 < (s.size : Int))), .bool (decide ((s.size : Int) < 1) || decide (200 < (s.size : Int)) || decide (1 < (s.size : Int))), .int .i64 (k : Int), .string s, .int .i64 (s.size : Int), .bool true, u28, u29, .string s, .int .i64 (k : Int), .int .u8 (c : Int), .bool (decide ((c : Int) < 48)), .bool (decide ((c : Int) < 48)), .string s, .int .i64 (k : Int), .int .u8 (c : Int), .bool (decide (57 < (c : Int))), .bool (decide ((c : Int) < 48) || decide (57 < (c : Int))), .slice po lo co, .slice (some ⟨tb, 0, none⟩) 1 1, .slice pm lm cm, .string s, u44, u45, u46, u47, u48, u49, undef], defers := [] } W := by
          intro W acc tb ht pm lm cm hm
          rw [← hR]
          refine wpAnyIn_ready (rs := [4]) (by kernel_rfl) (by simp) ?_
          refine AllReadyIn.cons rfl (fun K hK => ?_) ?_
          · go_simp
            refine hK _ _ ?_
            have h := H11111000000 W acc tb ht pm lm cm hm
            rw [← hR] at h
            exact h
          exact AllReadyIn.nil
        have H11101000000 : ∀ (W : World) (acc : Below wr.heap.size wr W) (tb : Nat) (ht : IsNum W (.slice (some ⟨tb, 0, none⟩) 1 1) 10) (pm : Option Addr) (lm cm : Nat) (hm : IsNum W (.slice pm lm cm) (decTo s k * 10)), R 7 #[true, true, true, false, true, false, false, false, false, false, false] { tmps := #[.string s, undef, u2, u3, .slice po lo co, .int .i64 (k : Int), .string s, .int .i64 (s.size : Int), .bool (decide ((s.size : Int) < 1)), .bool (decide ((s.size : Int) < 1)), .string s, .int .i64 (s.size : Int), .bool (decide (200 < (s.size : Int))), .bool (decide ((s.size : Int) < 1) || decide (200 < (s.size : Int))), .bool (decide ((s.size : Int) < 1) || decide (200 < (s.size : Int))), .string s, .int .u8 48, .bool true, .bool true, .string s, .int .i64 (s.size : Int), .bool (decide (1 < (s.size : Int))), .bool (decide (1 < (s.size : Int))), .bool (decide ((s.size : Int) < 1) || decide (200 < (s.size : Int)) || decide (1 < (s.size : Int))), .int .i64 (k : Int), .string s, .int .i64 (s.size : Int), .bool true, u28, u29, .string s, .int .i64 (k : Int), .int .u8 (c : Int), .bool (decide ((c : Int) < 48)), .bool (decide ((c : Int) < 48)), .string s, .int .i64 (k : Int), .int .u8 (c : Int), .bool (decide (57 < (c : Int))), .bool (decide ((c : Int) < 48) || decide (57 < (c : Int))), .slice po lo co, .slice (some ⟨tb, 0, none⟩) 1 1, .slice pm lm cm, u43, .int .i64 (k : Int), u45, u46, u47, u48, u49, undef], defers := [] } W := by
          intro W acc tb ht pm lm cm hm
          rw [← hR]
          refine wpAnyIn_ready (rs := [3]) (by kernel_rfl) (by simp) ?_
          refine AllReadyIn.cons rfl (fun K hK => ?_) ?_
          · go_simp
            refine hK _ _ ?_
            have h := H11111000000 W acc tb ht pm lm cm hm
            rw [← hR] at h
            exact h
          exact AllReadyIn.nil
        have H11100000000 : ∀ (W : World) (acc : Below wr.heap.size wr W) (tb : Nat) (ht : IsNum W (.slice (some ⟨tb, 0, none⟩) 1 1) 10) (pm : Option Addr) (lm cm : Nat) (hm : IsNum W (.slice pm lm cm) (decTo s k * 10)), R 8 #[true, true, true, false, false, false, false, false, false, false, false] { tmps := #[.string s, undef, u2, u3, .slice po lo co, .int .i64 (k : Int), .string s, .int .i64 (s.size : Int), .bool (decide ((s.size : Int) < 1)), .bool (decide ((s.size : Int) < 1)), .string s, .int .i64 (s.size : Int), .bool (decide (200 < (s.size : Int))), .bool (decide ((s.size : Int) < 1) || decide (200 < (s.size : Int))), .bool (decide ((s.size : Int) < 1) || decide (200 < (s.size : Int))), .string s, .int .u8 48, .bool true, .bool true, .string s, .int .i64 (s.size : Int), .bool (decide (1 < (s.size : Int))), .bool (decide (1 < (s.size : Int))), .bool (decide ((s.size : Int) < 1) || decide (200 < (s.size : Int)) || decide (1 < (s.size : Int))), .int .i64 (k : Int), .string s, .int .i64 (s.size : Int), .bool true, u28, u29, .string s, .int .i64 (k : Int), .int .u8 (c : Int), .bool (decide ((c : Int) < 48)), .bool (decide ((c : Int) < 48)), .string s, .int .i64 (k : Int), .int .u8 (c : Int), .bool (decide (57 < (c : Int))), .bool (decide ((c : Int) < 48) || decide (57 < (c : Int))), .slice po lo co, .slice (some ⟨tb, 0, none⟩) 1 1, .slice pm lm cm, u43, u44, u45, u46, u47, u48, u49, undef], defers := [] } W := by
          intro W acc tb ht pm lm cm hm
          rw [← hR]
          refine wpAnyIn_ready (rs := [3, 4]) (by kernel_rfl) (by simp) ?_
          refine AllReadyIn.cons rfl (fun K hK => ?_) ?_
          · go_simp
            refine hK _ _ ?_
            have h := H11110000000 W acc tb ht pm lm cm hm
            rw [← hR] at h
            exact h
          refine AllReadyIn.cons rfl (fun K hK => ?_) ?_
          · go_simp
            refine hK _ _ ?_
            have h := H11101000000 W acc tb ht pm lm cm hm
            rw [← hR] at h
            exact h
          exact AllReadyIn.nil
        have H11011111000 : ∀ (W : World) (acc : Below wr.heap.size wr W) (tb : Nat) (ht : IsNum W (.slice (some ⟨tb, 0, none⟩) 1 1) 10), R 4 #[true, true, false, true, true, true, true, true, false, false, false] { tmps := #[.string s, undef, u2, u3, .slice po lo co, .int .i64 (k : Int), .string s, .int .i64 (s.size : Int), .bool (decide ((s.size : Int) < 1)), .bool (decide ((s.size : Int) < 1)), .string s, .int .i64 (s.size : Int), .bool (decide (200 < (s.size : Int))), .bool (decide ((s.size : Int) < 1) || decide (200 < (s.size : Int))), .bool (decide ((s.size : Int) < 1) || decide (200 < (s.size : Int))), .string s, .int .u8 48, .bool true, .bool true, .string s, .int .i64 (s.size : Int), .bool (decide (1 < (s.size : Int))), .bool (decide (1 < (s.size : Int))), .bool (decide ((s.size : Int) < 1) || decide (200 < (s.size : Int)) || decide (1 < (s.size : Int))), .int .i64 (k : Int), .string s, .int .i64 (s.size : Int), .bool true, u28, u29, .string s, .int .i64 (k : Int), .int .u8 (c : Int), .bool (decide ((c : Int) < 48)), .bool (decide ((c : Int) < 48)), .string s, .int .i64 (k : Int), .int .u8 (c : Int), .bool (decide (57 < (c : Int))), .bool (decide ((c : Int) < 48) || decide (57 < (c : Int))), .slice po lo co, .slice (some ⟨tb, 0, none⟩) 1 1, u42, .string s, .int .i64 (k : Int), .int .u8 (c : Int), .int .u8 D, .int .u64 D, u48, u49, undef], defers := [] } W := by
          intro W acc tb ht
          rw [← hR]
          refine wpAnyIn_ready (rs := [2]) (by kernel_rfl) (by simp) ?_
          refine AllReadyIn.cons rfl (fun K hK => ?_) ?_
          · go_simp
            gi_wp2_with (refine ⟨trivial, ?_⟩; gi_at_call 25; refine (callsIn_wide.2 (natMul_num KB K1 _ _ (decTo s k) 10 W (ho.below acc) ht E1.out E3.out)).mono ?_; rintro e W2 ⟨vm, rfl, hm, hb⟩; obtain ⟨pm, lm, cm, rfl⟩ := hm.shape)
            have h := H11111111000 W2 (below_acc acc acc.size hb) tb (ht.below hb) pm lm cm hm
            rw [← hR] at h
            exact h
          exact AllReadyIn.nil
        have H11011110000 : ∀ (W : World) (acc : Below wr.heap.size wr W) (tb : Nat) (ht : IsNum W (.slice (some ⟨tb, 0, none⟩) 1 1) 10), R 5 #[true, true, false, true, true, true, true, false, false, false, false] { tmps := #[.string s, undef, u2, u3, .slice po lo co, .int .i64 (k : Int), .string s, .int .i64 (s.size : Int), .bool (decide ((s.size : Int) < 1)), .bool (decide ((s.size : Int) < 1)), .string s, .int .i64 (s.size : Int), .bool (decide (200 < (s.size : Int))), .bool (decide ((s.size : Int) < 1) || decide (200 < (s.size : Int))), .bool (decide ((s.size : Int) < 1) || decide (200 < (s.size : Int))), .string s, .int .u8 48, .bool true, .bool true, .string s, .int .i64 (s.size : Int), .bool (decide (1 < (s.size : Int))), .bool (decide (1 < (s.size : Int))), .bool (decide ((s.size : Int) < 1) || decide (200 < (s.size : Int)) || decide (1 < (s.size : Int))), .int .i64 (k : Int), .string s, .int .i64 (s.size : Int), .bool true, u28, u29, .string s, .int .i64 (k : Int), .int .u8 (c : Int), .bool (decide ((c : Int) < 48)), .bool (decide ((c : Int) < 48)), .string s, .int .i64 (k : Int), .int .u8 (c : Int), .bool (decide (57 < (c : Int))), .bool (decide ((c : Int) < 48) || decide (57 < (c : Int))), .slice po lo co, .slice (some ⟨tb, 0, none⟩) 1 1, u42, .string s, .int .i64 (k : Int), .int .u8 (c : Int), .int .u8 D, u47, u48, u49, undef], defers := [] } W := by
          intro W acc tb ht
          rw [← hR]
          refine wpAnyIn_ready (rs := [2, 7]) (by kernel_rfl) (by simp) ?_
          refine AllReadyIn.cons rfl (fun K hK => ?_) ?_
          · go_simp
            gi_wp2_with (refine ⟨trivial, ?_⟩; gi_at_call 25; refine (callsIn_wide.2 (natMul_num KB K1 _ _ (decTo s k) 10 W (ho.below acc) ht E1.out E3.out)).mono ?_; rintro e W2 ⟨vm, rfl, hm, hb⟩; obtain ⟨pm, lm, cm, rfl⟩ := hm.shape)
            have h := H11111110000 W2 (below_acc acc acc.size hb) tb (ht.below hb) pm lm cm hm
            rw [← hR] at h
            exact h
          refine AllReadyIn.cons rfl (fun K hK => ?_) ?_
          · go_simp
            refine hK _ _ ?_
            have h := H11011111000 W acc tb ht
            rw [← hR] at h
            exact h
          exact AllReadyIn.nil
        have H11011100000 : ∀ (W : World) (acc : Below wr.heap.size wr W) (tb : Nat) (ht : IsNum W (.slice (some ⟨tb, 0, none⟩) 1 1) 10), R 6 #[true, true, false, true, true, true, false, false, false, false, false] { tmps := #[.string s, undef, u2, u3, .slice po lo co, .int .i64 (k : Int), .string s, .int .i64 (s.size : Int), .bool (decide ((s.size : Int) < 1)), .bool (decide ((s.size : Int) < 1)), .string s, .int .i64 (s.size : Int), .bool (decide (200 < (s.size : Int))), .bool (decide ((s.size : Int) < 1) || decide (200 < (s.size : Int))), .bool (decide ((s.size : Int) < 1) || decide (200 < (s.size : Int))), .string s, .int .u8 48, .bool true, .bool true, .string s, .int .i64 (s.size : Int), .bool (decide (1 < (s.size : Int))), .bool (decide (1 < (s.size : Int))), .bool (decide ((s.size : Int) < 1) || decide (200 < (s.size : Int)) || decide (1 < (s.size : Int))), .int .i64 (k : Int), .string s, .int .i64 (s.size : Int), .bool true, u28, u29, .string s, .int .i64 (k : Int), .int .u8 (c : Int), .bool (decide ((c : Int) < 48)), .bool (decide ((c : Int) < 48)), .string s, .int .i64 (k : Int), .int .u8 (c : Int), .bool (decide (57 < (c : Int))), .bool (decide ((c : Int) < 48) || decide (57 < (c : Int))), .slice po lo co, .slice (some ⟨tb, 0, none⟩) 1 1, u42, .string s, .int .i64 (k : Int), .int .u8 (c : Int), u46, u47, u48, u49, undef], defers := [] } W := by
          intro W acc tb ht
          rw [← hR]
          refine wpAnyIn_ready (rs := [2, 6]) (by kernel_rfl) (by simp) ?_
          refine AllReadyIn.cons rfl (fun K hK => ?_) ?_
          · go_simp
            gi_wp2_with (refine ⟨trivial, ?_⟩; gi_at_call 25; refine (callsIn_wide.2 (natMul_num KB K1 _ _ (decTo s k) 10 W (ho.below acc) ht E1.out E3.out)).mono ?_; rintro e W2 ⟨vm, rfl, hm, hb⟩; obtain ⟨pm, lm, cm, rfl⟩ := hm.shape)
            have h := H11111100000 W2 (below_acc acc acc.size hb) tb (ht.below hb) pm lm cm hm
            rw [← hR] at h
            exact h
          refine AllReadyIn.cons rfl (fun K hK => ?_) ?_
          · go_simp
            refine hK _ _ ?_
            have h := H11011110000 W acc tb ht
            rw [← hR] at h
            exact h
          exact AllReadyIn.nil
        have H11011000000 : ∀ (W : World) (acc : Below wr.heap.size wr W) (tb : Nat) (ht : IsNum W (.slice (some ⟨tb, 0, none⟩) 1 1) 10), R 7 #[true, true, false, true, true, false, false, false, false, false, false] { tmps := #[.string s, undef, u2, u3, .slice po lo co, .int .i64 (k : Int), .string s, .int .i64 (s.size : Int), .bool (decide ((s.size : Int) < 1)), .bool (decide ((s.size : Int) < 1)), .string s, .int .i64 (s.size : Int), .bool (decide (200 < (s.size : Int))), .bool (decide ((s.size : Int) < 1) || decide (200 < (s.size : Int))), .bool (decide ((s.size : Int) < 1) || decide (200 < (s.size : Int))), .string s, .int .u8 48, .bool true, .bool true, .string s, .int .i64 (s.size : Int), .bool (decide (1 < (s.size : Int))), .bool (decide (1 < (s.size : Int))), .bool (decide ((s.size : Int) < 1) || decide (200 < (s.size : Int)) || decide (1 < (s.size : Int))), .int .i64 (k : Int), .string s, .int .i64 (s.size : Int), .bool true, u28, u29, .string s, .int .i64 (k : Int), .int .u8 (c : Int), .bool (decide ((c : Int) < 48)), .bool (decide ((c : Int) < 48)), .string s, .int .i64 (k : Int), .int .u8 (c : Int), .bool (decide (57 < (c : Int))), .bool (decide ((c : Int) < 48) || decide (57 < (c : Int))), .slice po lo co, .slice (some ⟨tb, 0, none⟩) 1 1, u42, .string s, .int .i64 (k : Int), u45, u46, u47, u48, u49, undef], defers := [] } W := by
          intro W acc tb ht
          rw [← hR]
          refine wpAnyIn_ready (rs := [2, 5]) (by kernel_rfl) (by simp) ?_
          refine AllReadyIn.cons rfl (fun K hK => ?_) ?_
          · go_simp
            gi_wp2_with (refine ⟨trivial, ?_⟩; gi_at_call 25; refine (callsIn_wide.2 (natMul_num KB K1 _ _ (decTo s k) 10 W (ho.below acc) ht E1.out E3.out)).mono ?_; rintro e W2 ⟨vm, rfl, hm, hb⟩; obtain ⟨pm, lm, cm, rfl⟩ := hm.shape)
            have h := H11111000000 W2 (below_acc acc acc.size hb) tb (ht.below hb) pm lm cm hm
            rw [← hR] at h
            exact h
          refine AllReadyIn.cons rfl (fun K hK => ?_) ?_
          · go_simp
            refine hK _ _ ?_
            have h := H11011100000 W acc tb ht
            rw [← hR] at h
            exact h
          exact AllReadyIn.nil
        have H11010000000 : ∀ (W : World) (acc : Below wr.heap.size wr W) (tb : Nat) (ht : IsNum W (.slice (some ⟨tb, 0, none⟩) 1 1) 10), R 8 #[true, true, false, true, false, false, false, false, false, false, false] { tmps := #[.string s, undef, u2, u3, .slice po lo co, .int .i64 (k : Int), .string s, .int .i64 (s.size : Int), .bool (decide ((s.size : Int) < 1)), .bool (decide ((s.size : Int) < 1)), .string s, .int .i64 (s.size : Int), .bool (decide (200 < (s.size : Int))), .bool (decide ((s.size : Int) < 1) || decide (200 < (s.size : Int))), .bool (decide ((s.size : Int) < 1) || decide (200 < (s.size : Int))), .string s, .int .u8 48, .bool true, .bool true, .string s, .int .i64 (s.size : Int), .bool (decide (1 < (s.size : Int))), .bool (decide (1 < (s.size : Int))), .bool (decide ((s.size : Int) < 1) || decide (200 < (s.size : Int)) || decide (1 < (s.size : Int))), .int .i64 (k : Int), .string s, .int .i64 (s.size : Int), .bool true, u28, u29, .string s, .int .i64 (k : Int), .int .u8 (c : Int), .bool (decide ((c : Int) < 48)), .bool (decide ((c : Int) < 48)), .string s, .int .i64 (k : Int), .int .u8 (c : Int), .bool (decide (57 < (c : Int))), .bool (decide ((c : Int) < 48) || decide (57 < (c : Int))), .slice po lo co, .slice (some ⟨tb, 0, none⟩) 1 1, u42, .string s, u44, u45, u46, u47, u48, u49, undef], defers := [] } W := by
          intro W acc tb ht
          rw [← hR]
          refine wpAnyIn_ready (rs := [2, 4]) (by kernel_rfl) (by simp) ?_
          refine AllReadyIn.cons rfl (fun K hK => ?_) ?_
          · go_simp
            gi_wp2_with (refine ⟨trivial, ?_⟩; gi_at_call 25; refine (callsIn_wide.2 (natMul_num KB K1 _ _ (decTo s k) 10 W (ho.below acc) ht E1.out E3.out)).mono ?_; rintro e W2 ⟨vm, rfl, hm, hb⟩; obtain ⟨pm, lm, cm, rfl⟩ := hm.shape)
            have h := H11110000000 W2 (below_acc acc acc.size hb) tb (ht.below hb) pm lm cm hm
            rw [← hR] at h
            exact h
          refine AllReadyIn.cons rfl (fun K hK => ?_) ?_
          · go_simp
            refine hK _ _ ?_
            have h := H11011000000 W acc tb ht
            rw [← hR] at h
            exact h
          exact AllReadyIn.nil
        have H11001000000 : ∀ (W : World) (acc : Below wr.heap.size wr W) (tb : Nat) (ht : IsNum W (.slice (some ⟨tb, 0, none⟩) 1 1) 10), R 8 #[true, true, false, false, true, false, false, false, false, false, false] { tmps := #[.string s, undef, u2, u3, .slice po lo co, .int .i64 (k : Int), .string s, .int .i64 (s.size : Int), .bool (decide ((s.size : Int) < 1)), .bool (decide ((s.size : Int) < 1)), .string s, .int .i64 (s.size : Int), .bool (decide (200 < (s.size : Int))), .bool (decide ((s.size : Int) < 1) || decide (200 < (s.size : Int))), .bool (decide ((s.size : Int) < 1) || decide (200 < (s.size : Int))), .string s, .int .u8 48, .bool true, .bool true, .string s, .int .i64 (s.size : Int), .bool (decide (1 < (s.size : Int))), .bool (decide (1 < (s.size : Int))), .bool (decide ((s.size : Int) < 1) || decide (200 < (s.size : Int)) || decide (1 < (s.size : Int))), .int .i64 (k : Int), .string s, .int .i64 (s.size : Int), .bool true, u28, u29, .string s, .int .i64 (k : Int), .int .u8 (c : Int), .bool (decide ((c : Int) < 48)), .bool (decide ((c : Int) < 48)), .string s, .int .i64 (k : Int), .int .u8 (c : Int), .bool (decide (57 < (c : Int))), .bool (decide ((c : Int) < 48) || decide (57 < (c : Int))), .slice po lo co, .slice (some ⟨tb, 0, none⟩) 1 1, u42, u43, .int .i64 (k : Int), u45, u46, u47, u48, u49, undef], defers := [] } W := by
          intro W acc tb ht
          rw [← hR]
          refine wpAnyIn_ready (rs := [2, 3]) (by kernel_rfl) (by simp) ?_
          refine AllReadyIn.cons rfl (fun K hK => ?_) ?_
          · go_simp
            gi_wp2_with (refine ⟨trivial, ?_⟩; gi_at_call 25; refine (callsIn_wide.2 (natMul_num KB K1 _ _ (decTo s k) 10 W (ho.below acc) ht E1.out E3.out)).mono ?_; rintro e W2 ⟨vm, rfl, hm, hb⟩; obtain ⟨pm, lm, cm, rfl⟩ := hm.shape)
            have h := H11101000000 W2 (below_acc acc acc.size hb) tb (ht.below hb) pm lm cm hm
            rw [← hR] at h
            exact h
          refine AllReadyIn.cons rfl (fun K hK => ?_) ?_
          · go_simp
            refine hK _ _ ?_
            have h := H11011000000 W acc tb ht
            rw [← hR] at h
            exact h
          exact AllReadyIn.nil
        have H11000000000 : ∀ (W : World) (acc : Below wr.heap.size wr W) (tb : Nat) (ht : IsNum W (.slice (some ⟨tb, 0, none⟩) 1 1) 10), R 9 #[true, true, false, false, false, false, false, false, false, false, false] { tmps := #[.string s, undef, u2, u3, .slice po lo co, .int .i64 (k : Int), .string s, .int .i64 (s.size : Int), .bool (decide ((s.size : Int) < 1)), .bool (decide ((s.size : Int) < 1)), .string s, .int .i64 (s.size : Int), .bool (decide (200 < (s.size : Int))), .bool (decide ((s.size : Int) < 1) || decide (200 < (s.size : Int))), .bool (decide ((s.size : Int) < 1) || decide (200 < (s.size : Int))), .string s, .int .u8 48, .bool true, .bool true, .string s, .int .i64 (s.size : Int), .bool (decide (1 < (s.size : Int))), .bool (decide (1 < (s.size : Int))), .bool (decide ((s.size : Int) < 1) || decide (200 < (s.size : Int)) || decide (1 < (s.size : Int))), .int .i64 (k : Int), .string s, .int .i64 (s.size : Int), .bool true, u28, u29, .string s, .int .i64 (k : Int), .int .u8 (c : Int), .bool (decide ((c : Int) < 48)), .bool (decide ((c : Int) < 48)), .string s, .int .i64 (k : Int), .int .u8 (c : Int), .bool (decide (57 < (c : Int))), .bool (decide ((c : Int) < 48) || decide (57 < (c : Int))), .slice po lo co, .slice (some ⟨tb, 0, none⟩) 1 1, u42, u43, u44, u45, u46, u47, u48, u49, undef], defers := [] } W := by
          intro W acc tb ht
          rw [← hR]
          refine wpAnyIn_ready (rs := [2, 3, 4]) (by kernel_rfl) (by simp) ?_
          refine AllReadyIn.cons rfl (fun K hK => ?_) ?_
          · go_simp
            gi_wp2_with (refine ⟨trivial, ?_⟩; gi_at_call 25; refine (callsIn_wide.2 (natMul_num KB K1 _ _ (decTo s k) 10 W (ho.below acc) ht E1.out E3.out)).mono ?_; rintro e W2 ⟨vm, rfl, hm, hb⟩; obtain ⟨pm, lm, cm, rfl⟩ := hm.shape)
            have h := H11100000000 W2 (below_acc acc acc.size hb) tb (ht.below hb) pm lm cm hm
            rw [← hR] at h
            exact h
          refine AllReadyIn.cons rfl (fun K hK => ?_) ?_
          · go_simp
            refine hK _ _ ?_
            have h := H11010000000 W acc tb ht
            rw [← hR] at h
            exact h
          refine AllReadyIn.cons rfl (fun K hK => ?_) ?_
          · go_simp
            refine hK _ _ ?_
            have h := H11001000000 W acc tb ht
            rw [← hR] at h
            exact h
          exact AllReadyIn.nil
        have H10011111000 : ∀ (W : World) (acc : Below wr.heap.size wr W), R 5 #[true, false, false, true, true, true, true, true, false, false, false] { tmps := #[.string s, undef, u2, u3, .slice po lo co, .int .i64 (k : Int), .string s, .int .i64 (s.size : Int), .bool (decide ((s.size : Int) < 1)), .bool (decide ((s.size : Int) < 1)), .string s, .int .i64 (s.size : Int), .bool (decide (200 < (s.size : Int))), .bool (decide ((s.size : Int) < 1) || decide (200 < (s.size : Int))), .bool (decide ((s.size : Int) < 1) || decide (200 < (s.size : Int))), .string s, .int .u8 48, .bool true, .bool true, .string s, .int .i64 (s.size : Int), .bool (decide (1 < (s.size : Int))), .bool (decide (1 < (s.size : Int))), .bool (decide ((s.size : Int) < 1) || decide (200 < (s.size : Int)) || decide (1 < (s.size : Int))), .int .i64 (k : Int), .string s, .int .i64 (s.size : Int), .bool true, u28, u29, .string s, .int .i64 (k : Int), .int .u8 (c : Int), .bool (decide ((c : Int) < 48)), .bool (decide ((c : Int) < 48)), .string s, .int .i64 (k : Int), .int .u8 (c : Int), .bool (decide (57 < (c : Int))), .bool (decide ((c : Int) < 48) || decide (57 < (c : Int))), .slice po lo co, u41, u42, .string s, .int .i64 (k : Int), .int .u8 (c : Int), .int .u8 D, .int .u64 D, u48, u49, undef], defers := [] } W := by
          intro W acc
          rw [← hR]
          refine wpAnyIn_ready (rs := [1]) (by kernel_rfl) (by simp) ?_
          refine AllReadyIn.cons rfl (fun K hK => ?_) ?_
          · go_simp
            refine hK _ _ ?_
            have h := H11011111000 (W.alloc (.cells #[.int .u32 10] 53)) (acc.alloc acc.size _) W.heap.size (num_ten W)
            rw [← hR] at h
            exact h
          exact AllReadyIn.nil
        have H10011110000 : ∀ (W : World) (acc : Below wr.heap.size wr W), R 6 #[true, false, false, true, true, true, true, false, false, false, false] { tmps := #[.string s, undef, u2, u3, .slice po lo co, .int .i64 (k : Int), .string s, .int .i64 (s.size : Int), .bool (decide ((s.size : Int) < 1)), .bool (decide ((s.size : Int) < 1)), .string s, .int .i64 (s.size : Int), .bool (decide (200 < (s.size : Int))), .bool (decide ((s.size : Int) < 1) || decide (200 < (s.size : Int))), .bool (decide ((s.size : Int) < 1) || decide (200 < (s.size : Int))), .string s, .int .u8 48, .bool true, .bool true, .string s, .int .i64 (s.size : Int), .bool (decide (1 < (s.size : Int))), .bool (decide (1 < (s.size : Int))), .bool (decide ((s.size : Int) < 1) || decide (200 < (s.size : Int)) || decide (1 < (s.size : Int))), .int .i64 (k : Int), .string s, .int .i64 (s.size : Int), .bool true, u28, u29, .string s, .int .i64 (k : Int), .int .u8 (c : Int), .bool (decide ((c : Int) < 48)), .bool (decide ((c : Int) < 48)), .string s, .int .i64 (k : Int), .int .u8 (c : Int), .bool (decide (57 < (c : Int))), .bool (decide ((c : Int) < 48) || decide (57 < (c : Int))), .slice po lo co, u41, u42, .string s, .int .i64 (k : Int), .int .u8 (c : Int), .int .u8 D, u47, u48, u49, undef], defers := [] } W := by
          intro W acc
          rw [← hR]
          refine wpAnyIn_ready (rs := [1, 7]) (by kernel_rfl) (by simp) ?_
          refine AllReadyIn.cons rfl (fun K hK => ?_) ?_
          · go_simp
            refine hK _ _ ?_
            have h := H11011110000 (W.alloc (.cells #[.int .u32 10] 53)) (acc.alloc acc.size _) W.heap.size (num_ten W)
            rw [← hR] at h
            exact h
          refine AllReadyIn.cons rfl (fun K hK => ?_) ?_
          · go_simp
            refine hK _ _ ?_
            have h := H10011111000 W acc
            rw [← hR] at h
            exact h
          exact AllReadyIn.nil
        have H10011100000 : ∀ (W : World) (acc : Below wr.heap.size wr W), R 7 #[true, false, false, true, true, true, false, false, false, false, false] { tmps := #[.string s, undef, u2, u3, .slice po lo co, .int .i64 (k : Int), .string s, .int .i64 (s.size : Int), .bool (decide ((s.size : Int) < 1)), .bool (decide ((s.size : Int) < 1)), .string s, .int .i64 (s.size : Int), .bool (decide (200 < (s.size : Int))), .bool (decide ((s.size : Int) < 1) || decide (200 < (s.size : Int))), .bool (decide ((s.size : Int) < 1) || decide (200 < (s.size : Int))), .string s, .int .u8 48, .bool true, .bool true, .string s, .int .i64 (s.size : Int), .bool (decide (1 < (s.size : Int))), .bool (decide (1 < (s.size : Int))), .bool (decide ((s.size : Int) < 1) || decide (200 < (s.size : Int)) || decide (1 < (s.size : Int))), .int .i64 (k : Int), .string s, .int .i64 (s.size : Int), .bool true, u28, u29, .string s, .int .i64 (k : Int), .int .u8 (c : Int), .bool (decide ((c : Int) < 48)), .bool (decide ((c : Int) < 48)), .string s, .int .i64 (k : Int), .int .u8 (c : Int), .bool (decide (57 < (c : Int))), .bool (decide ((c : Int) < 48) || decide (57 < (c : Int))), .slice po lo co, u41, u42, .string s, .int .i64 (k : Int), .int .u8 (c : Int), u46, u47, u48, u49, undef], defers := [] } W := by
          intro W acc
          rw [← hR]
          refine wpAnyIn_ready (rs := [1, 6]) (by kernel_rfl) (by simp) ?_
          refine AllReadyIn.cons rfl (fun K hK => ?_) ?_
          · go_simp
            refine hK _ _ ?_
            have h := H11011100000 (W.alloc (.cells #[.int .u32 10] 53)) (acc.alloc acc.size _) W.heap.size (num_ten W)
            rw [← hR] at h
            exact h
          refine AllReadyIn.cons rfl (fun K hK => ?_) ?_
          · go_simp
            refine hK _ _ ?_
            have h := H10011110000 W acc
            rw [← hR] at h
            exact h
          exact AllReadyIn.nil
        have H10011000000 : ∀ (W : World) (acc : Below wr.heap.size wr W), R 8 #[true, false, false, true, true, false, false, false, false, false, false] { tmps := #[.string s, undef, u2, u3, .slice po lo co, .int .i64 (k : Int), .string s, .int .i64 (s.size : Int), .bool (decide ((s.size : Int) < 1)), .bool (decide ((s.size : Int) < 1)), .string s, .int .i64 (s.size : Int), .bool (decide (200 < (s.size : Int))), .bool (decide ((s.size : Int) < 1) || decide (200 < (s.size : Int))), .bool (decide ((s.size : Int) < 1) || decide (200 < (s.size : Int))), .string s, .int .u8 48, .bool true, .bool true, .string s, .int .i64 (s.size : Int), .bool (decide (1 < (s.size : Int))), .bool (decide (1 < (s.size : Int))), .bool (decide ((s.size : Int) < 1) || decide (200 < (s.size : Int)) || decide (1 < (s.size : Int))), .int .i64 (k : Int), .string s, .int .i64 (s.size : Int), .bool true, u28, u29, .string s, .int .i64 (k : Int), .int .u8 (c : Int), .bool (decide ((c : Int) < 48)), .bool (decide ((c : Int) < 48)), .string s, .int .i64 (k : Int), .int .u8 (c : Int), .bool (decide (57 < (c : Int))), .bool (decide ((c : Int) < 48) || decide (57 < (c : Int))), .slice po lo co, u41, u42, .string s, .int .i64 (k : Int), u45, u46, u47, u48, u49, undef], defers := [] } W := by
          intro W acc
          rw [← hR]
          refine wpAnyIn_ready (rs := [1, 5]) (by kernel_rfl) (by simp) ?_
          refine AllReadyIn.cons rfl (fun K hK => ?_) ?_
          · go_simp
            refine hK _ _ ?_
            have h := H11011000000 (W.alloc (.cells #[.int .u32 10] 53)) (acc.alloc acc.size _) W.heap.size (num_ten W)
            rw [← hR] at h
            exact h
          refine AllReadyIn.cons rfl (fun K hK => ?_) ?_
          · go_simp
            refine hK _ _ ?_
            have h := H10011100000 W acc
            rw [← hR] at h
            exact h
          exact AllReadyIn.nil
        have H10010000000 : ∀ (W : World) (acc : Below wr.heap.size wr W), R 9 #[true, false, false, true, false, false, false, false, false, false, false] { tmps := #[.string s, undef, u2, u3, .slice po lo co, .int .i64 (k : Int), .string s, .int .i64 (s.size : Int), .bool (decide ((s.size : Int) < 1)), .bool (decide ((s.size : Int) < 1)), .string s, .int .i64 (s.size : Int), .bool (decide (200 < (s.size : Int))), .bool (decide ((s.size : Int) < 1) || decide (200 < (s.size : Int))), .bool (decide ((s.size : Int) < 1) || decide (200 < (s.size : Int))), .string s, .int .u8 48, .bool true, .bool true, .string s, .int .i64 (s.size : Int), .bool (decide (1 < (s.size : Int))), .bool (decide (1 < (s.size : Int))), .bool (decide ((s.size : Int) < 1) || decide (200 < (s.size : Int)) || decide (1 < (s.size : Int))), .int .i64 (k : Int), .string s, .int .i64 (s.size : Int), .bool true, u28, u29, .string s, .int .i64 (k : Int), .int .u8 (c : Int), .bool (decide ((c : Int) < 48)), .bool (decide ((c : Int) < 48)), .string s, .int .i64 (k : Int), .int .u8 (c : Int), .bool (decide (57 < (c : Int))), .bool (decide ((c : Int) < 48) || decide (57 < (c : Int))), .slice po lo co, u41, u42, .string s, u44, u45, u46, u47, u48, u49, undef], defers := [] } W := by
          intro W acc
          rw [← hR]
          refine wpAnyIn_ready (rs := [1, 4]) (by kernel_rfl) (by simp) ?_
          refine AllReadyIn.cons rfl (fun K hK => ?_) ?_
          · go_simp
            refine hK _ _ ?_
            have h := H11010000000 (W.alloc (.cells #[.int .u32 10] 53)) (acc.alloc acc.size _) W.heap.size (num_ten W)
            rw [← hR] at h
            exact h
          refine AllReadyIn.cons rfl (fun K hK => ?_) ?_
          · go_simp
            refine hK _ _ ?_
            have h := H10011000000 W acc
            rw [← hR] at h
            exact h
          exact AllReadyIn.nil
        have H10001000000 : ∀ (W : World) (acc : Below wr.heap.size wr W), R 9 #[true, false, false, false, true, false, false, false, false, false, false] { tmps := #[.string s, undef, u2, u3, .slice po lo co, .int .i64 (k : Int), .string s, .int .i64 (s.size : Int), .bool (decide ((s.size : Int) < 1)), .bool (decide ((s.size : Int) < 1)), .string s, .int .i64 (s.size : Int), .bool (decide (200 < (s.size : Int))), .bool (decide ((s.size : Int) < 1) || decide (200 < (s.size : Int))), .bool (decide ((s.size : Int) < 1) || decide (200 < (s.size : Int))), .string s, .int .u8 48, .bool true, .bool true, .string s, .int .i64 (s.size : Int), .bool (decide (1 < (s.size : Int))), .bool (decide (1 < (s.size : Int))), .bool (decide ((s.size : Int) < 1) || decide (200 < (s.size : Int)) || decide (1 < (s.size : Int))), .int .i64 (k : Int), .string s, .int .i64 (s.size : Int), .bool true, u28, u29, .string s, .int .i64 (k : Int), .int .u8 (c : Int), .bool (decide ((c : Int) < 48)), .bool (decide ((c : Int) < 48)), .string s, .int .i64 (k : Int), .int .u8 (c : Int), .bool (decide (57 < (c : Int))), .bool (decide ((c : Int) < 48) || decide (57 < (c : Int))), .slice po lo co, u41, u42, u43, .int .i64 (k : Int), u45, u46, u47, u48, u49, undef], defers := [] } W := by
          intro W acc
          rw [← hR]
          refine wpAnyIn_ready (rs := [1, 3]) (by kernel_rfl) (by simp) ?_
          refine AllReadyIn.cons rfl (fun K hK => ?_) ?_
          · go_simp
            refine hK _ _ ?_
            have h := H11001000000 (W.alloc (.cells #[.int .u32 10] 53)) (acc.alloc acc.size _) W.heap.size (num_ten W)
            rw [← hR] at h
            exact h
          refine AllReadyIn.cons rfl (fun K hK => ?_) ?_
          · go_simp
            refine hK _ _ ?_
            have h := H10011000000 W acc
            rw [← hR] at h
            exact h
          exact AllReadyIn.nil
        have H10000000000 : ∀ (W : World) (acc : Below wr.heap.size wr W), R 10 #[true, false, false, false, false, false, false, false, false, false, false] { tmps := #[.string s, undef, u2, u3, .slice po lo co, .int .i64 (k : Int), .string s, .int .i64 (s.size : Int), .bool (decide ((s.size : Int) < 1)), .bool (decide ((s.size : Int) < 1)), .string s, .int .i64 (s.size : Int), .bool (decide (200 < (s.size : Int))), .bool (decide ((s.size : Int) < 1) || decide (200 < (s.size : Int))), .bool (decide ((s.size : Int) < 1) || decide (200 < (s.size : Int))), .string s, .int .u8 48, .bool true, .bool true, .string s, .int .i64 (s.size : Int), .bool (decide (1 < (s.size : Int))), .bool (decide (1 < (s.size : Int))), .bool (decide ((s.size : Int) < 1) || decide (200 < (s.size : Int)) || decide (1 < (s.size : Int))), .int .i64 (k : Int), .string s, .int .i64 (s.size : Int), .bool true, u28, u29, .string s, .int .i64 (k : Int), .int .u8 (c : Int), .bool (decide ((c : Int) < 48)), .bool (decide ((c : Int) < 48)), .string s, .int .i64 (k : Int), .int .u8 (c : Int), .bool (decide (57 < (c : Int))), .bool (decide ((c : Int) < 48) || decide (57 < (c : Int))), .slice po lo co, u41, u42, u43, u44, u45, u46, u47, u48, u49, undef], defers := [] } W := by
          intro W acc
          rw [← hR]
          refine wpAnyIn_ready (rs := [1, 3, 4]) (by kernel_rfl) (by simp) ?_
          refine AllReadyIn.cons rfl (fun K hK => ?_) ?_
          · go_simp
            refine hK _ _ ?_
            have h := H11000000000 (W.alloc (.cells #[.int .u32 10] 53)) (acc.alloc acc.size _) W.heap.size (num_ten W)
            rw [← hR] at h
            exact h
          refine AllReadyIn.cons rfl (fun K hK => ?_) ?_
          · go_simp
            refine hK _ _ ?_
            have h := H10010000000 W acc
            rw [← hR] at h
            exact h
          refine AllReadyIn.cons rfl (fun K hK => ?_) ?_
          · go_simp
            refine hK _ _ ?_
            have h := H10001000000 W acc
            rw [← hR] at h
            exact h
          exact AllReadyIn.nil
        have H01011111000 : ∀ (W : World) (acc : Below wr.heap.size wr W) (tb : Nat) (ht : IsNum W (.slice (some ⟨tb, 0, none⟩) 1 1) 10), R 5 #[false, true, false, true, true, true, true, true, false, false, false] { tmps := #[.string s, undef, u2, u3, .slice po lo co, .int .i64 (k : Int), .string s, .int .i64 (s.size : Int), .bool (decide ((s.size : Int) < 1)), .bool (decide ((s.size : Int) < 1)), .string s, .int .i64 (s.size : Int), .bool (decide (200 < (s.size : Int))), .bool (decide ((s.size : Int) < 1) || decide (200 < (s.size : Int))), .bool (decide ((s.size : Int) < 1) || decide (200 < (s.size : Int))), .string s, .int .u8 48, .bool true, .bool true, .string s, .int .i64 (s.size : Int), .bool (decide (1 < (s.size : Int))), .bool (decide (1 < (s.size : Int))), .bool (decide ((s.size : Int) < 1) || decide (200 < (s.size : Int)) || decide (1 < (s.size : Int))), .int .i64 (k : Int), .string s, .int .i64 (s.size : Int), .bool true, u28, u29, .string s, .int .i64 (k : Int), .int .u8 (c : Int), .bool (decide ((c : Int) < 48)), .bool (decide ((c : Int) < 48)), .string s, .int .i64 (k : Int), .int .u8 (c : Int), .bool (decide (57 < (c : Int))), .bool (decide ((c : Int) < 48) || decide (57 < (c : Int))), u40, .slice (some ⟨tb, 0, none⟩) 1 1, u42, .string s, .int .i64 (k : Int), .int .u8 (c : Int), .int .u8 D, .int .u64 D, u48, u49, undef], defers := [] } W := by
          intro W acc tb ht
          rw [← hR]
          refine wpAnyIn_ready (rs := [0]) (by kernel_rfl) (by simp) ?_
          refine AllReadyIn.cons rfl (fun K hK => ?_) ?_
          · go_simp
            refine hK _ _ ?_
            have h := H11011111000 W acc tb ht
            rw [← hR] at h
            exact h
          exact AllReadyIn.nil
        have H01011110000 : ∀ (W : World) (acc : Below wr.heap.size wr W) (tb : Nat) (ht : IsNum W (.slice (some ⟨tb, 0, none⟩) 1 1) 10), R 6 #[false, true, false, true, true, true, true, false, false, false, false] { tmps := #[.string s, undef, u2, u3, .slice po lo co, .int .i64 (k : Int), .string s, .int .i64 (s.size : Int), .bool (decide ((s.size : Int) < 1)), .bool (decide ((s.size : Int) < 1)), .string s, .int .i64 (s.size : Int), .bool (decide (200 < (s.size : Int))), .bool (decide ((s.size : Int) < 1) || decide (200 < (s.size : Int))), .bool (decide ((s.size : Int) < 1) || decide (200 < (s.size : Int))), .string s, .int .u8 48, .bool true, .bool true, .string s, .int .i64 (s.size : Int), .bool (decide (1 < (s.size : Int))), .bool (decide (1 < (s.size : Int))), .bool (decide ((s.size : Int) < 1) || decide (200 < (s.size : Int)) || decide (1 < (s.size : Int))), .int .i64 (k : Int), .string s, .int .i64 (s.size : Int), .bool true, u28, u29, .string s, .int .i64 (k : Int), .int .u8 (c : Int), .bool (decide ((c : Int) < 48)), .bool (decide ((c : Int) < 48)), .string s, .int .i64 (k : Int), .int .u8 (c : Int), .bool (decide (57 < (c : Int))), .bool (decide ((c : Int) < 48) || decide (57 < (c : Int))), u40, .slice (some ⟨tb, 0, none⟩) 1 1, u42, .string s, .int .i64 (k : Int), .int .u8 (c : Int), .int .u8 D, u47, u48, u49, undef], defers := [] } W := by
          intro W acc tb ht
          rw [← hR]
          refine wpAnyIn_ready (rs := [0, 7]) (by kernel_rfl) (by simp) ?_
          refine AllReadyIn.cons rfl (fun K hK => ?_) ?_
          · go_simp
            refine hK _ _ ?_
            have h := H11011110000 W acc tb ht
            rw [← hR] at h
            exact h
          refine AllReadyIn.cons rfl (fun K hK => ?_) ?_
          · go_simp
            refine hK _ _ ?_
            have h := H01011111000 W acc tb ht
            rw [← hR] at h
            exact h
          exact AllReadyIn.nil
        have H01011100000 : ∀ (W : World) (acc : Below wr.heap.size wr W) (tb : Nat) (ht : IsNum W (.slice (some ⟨tb, 0, none⟩) 1 1) 10), R 7 #[false, true, false, true, true, true, false, false, false, false, false] { tmps := #[.string s, undef, u2, u3, .slice po lo co, .int .i64 (k : Int), .string s, .int .i64 (s.size : Int), .bool (decide ((s.size : Int) < 1)), .bool (decide ((s.size : Int) < 1)), .string s, .int .i64 (s.size : Int), .bool (decide (200 < (s.size : Int))), .bool (decide ((s.size : Int) < 1) || decide (200 < (s.size : Int))), .bool (decide ((s.size : Int) < 1) || decide (200 < (s.size : Int))), .string s, .int .u8 48, .bool true, .bool true, .string s, .int .i64 (s.size : Int), .bool (decide (1 < (s.size : Int))), .bool (decide (1 < (s.size : Int))), .bool (decide ((s.size : Int) < 1) || decide (200 < (s.size : Int)) || decide (1 < (s.size : Int))), .int .i64 (k : Int), .string s, .int .i64 (s.size : Int), .bool true, u28, u29, .string s, .int .i64 (k : Int), .int .u8 (c : Int), .bool (decide ((c : Int) < 48)), .bool (decide ((c : Int) < 48)), .string s, .int .i64 (k : Int), .int .u8 (c : Int), .bool (decide (57 < (c : Int))), .bool (decide ((c : Int) < 48) || decide (57 < (c : Int))), u40, .slice (some ⟨tb, 0, none⟩) 1 1, u42, .string s, .int .i64 (k : Int), .int .u8 (c : Int), u46, u47, u48, u49, undef], defers := [] } W := by
          intro W acc tb ht
          rw [← hR]
          refine wpAnyIn_ready (rs := [0, 6]) (by kernel_rfl) (by simp) ?_
          refine AllReadyIn.cons rfl (fun K hK => ?_) ?_
          · go_simp
            refine hK _ _ ?_
            have h := H11011100000 W acc tb ht
            rw [← hR] at h
            exact h
          refine AllReadyIn.cons rfl (fun K hK => ?_) ?_
          · go_simp
            refine hK _ _ ?_
            have h := H01011110000 W acc tb ht
            rw [← hR] at h
            exact h
          exact AllReadyIn.nil
        have H01011000000 : ∀ (W : World) (acc : Below wr.heap.size wr W) (tb : Nat) (ht : IsNum W (.slice (some ⟨tb, 0, none⟩) 1 1) 10), R 8 #[false, true, false, true, true, false, false, false, false, false, false] { tmps := #[.string s, undef, u2, u3, .slice po lo co, .int .i64 (k : Int), .string s, .int .i64 (s.size : Int), .bool (decide ((s.size : Int) < 1)), .bool (decide ((s.size : Int) < 1)), .string s, .int .i64 (s.size : Int), .bool (decide (200 < (s.size : Int))), .bool (decide ((s.size : Int) < 1) || decide (200 < (s.size : Int))), .bool (decide ((s.size : Int) < 1) || decide (200 < (s.size : Int))), .string s, .int .u8 48, .bool true, .bool true, .string s, .int .i64 (s.size : Int), .bool (decide (1 < (s.size : Int))), .bool (decide (1 < (s.size : Int))), .bool (decide ((s.size : Int) < 1) || decide (200 < (s.size : Int)) || decide (1 < (s.size : Int))), .int .i64 (k : Int), .string s, .int .i64 (s.size : Int), .bool true, u28, u29, .string s, .int .i64 (k : Int), .int .u8 (c : Int), .bool (decide ((c : Int) < 48)), .bool (decide ((c : Int) < 48)), .string s, .int .i64 (k : Int), .int .u8 (c : Int), .bool (decide (57 < (c : Int))), .bool (decide ((c : Int) < 48) || decide (57 < (c : Int))), u40, .slice (some ⟨tb, 0, none⟩) 1 1, u42, .string s, .int .i64 (k : Int), u45, u46, u47, u48, u49, undef], defers := [] } W := by
          intro W acc tb ht
          rw [← hR]
          refine wpAnyIn_ready (rs := [0, 5]) (by kernel_rfl) (by simp) ?_
          refine AllReadyIn.cons rfl (fun K hK => ?_) ?_
          · go_simp
            refine hK _ _ ?_
            have h := H11011000000 W acc tb ht
            rw [← hR] at h
            exact h
          refine AllReadyIn.cons rfl (fun K hK => ?_) ?_
          · go_simp
            refine hK _ _ ?_
            have h := H01011100000 W acc tb ht
            rw [← hR] at h
            exact h
          exact AllReadyIn.nil
        have H01010000000 : ∀ (W : World) (acc : Below wr.heap.size wr W) (tb : Nat) (ht : IsNum W (.slice (some ⟨tb, 0, none⟩) 1 1) 10), R 9 #[false, true, false, true, false, false, false, false, false, false, false] { tmps := #[.string s, undef, u2, u3, .slice po lo co, .int .i64 (k : Int), .string s, .int .i64 (s.size : Int), .bool (decide ((s.size : Int) < 1)), .bool (decide ((s.size : Int) < 1)), .string s, .int .i64 (s.size : Int), .bool (decide (200 < (s.size : Int))), .bool (decide ((s.size : Int) < 1) || decide (200 < (s.size : Int))), .bool (decide ((s.size : Int) < 1) || decide (200 < (s.size : Int))), .string s, .int .u8 48, .bool true, .bool true, .string s, .int .i64 (s.size : Int), .bool (decide (1 < (s.size : Int))), .bool (decide (1 < (s.size : Int))), .bool (decide ((s.size : Int) < 1) || decide (200 < (s.size : Int)) || decide (1 < (s.size : Int))), .int .i64 (k : Int), .string s, .int .i64 (s.size : Int), .bool true, u28, u29, .string s, .int .i64 (k : Int), .int .u8 (c : Int), .bool (decide ((c : Int) < 48)), .bool (decide ((c : Int) < 48)), .string s, .int .i64 (k : Int), .int .u8 (c : Int), .bool (decide (57 < (c : Int))), .bool (decide ((c : Int) < 48) || decide (57 < (c : Int))), u40, .slice (some ⟨tb, 0, none⟩) 1 1, u42, .string s, u44, u45, u46, u47, u48, u49, undef], defers := [] } W := by
          intro W acc tb ht
          rw [← hR]
          refine wpAnyIn_ready (rs := [0, 4]) (by kernel_rfl) (by simp) ?_
          refine AllReadyIn.cons rfl (fun K hK => ?_) ?_
          · go_simp
            refine hK _ _ ?_
            have h := H11010000000 W acc tb ht
            rw [← hR] at h
            exact h
          refine AllReadyIn.cons rfl (fun K hK => ?_) ?_
          · go_simp
            refine hK _ _ ?_
            have h := H01011000000 W acc tb ht
            rw [← hR] at h
            exact h
          exact AllReadyIn.nil
        have H01001000000 : ∀ (W : World) (acc : Below wr.heap.size wr W) (tb : Nat) (ht : IsNum W (.slice (some ⟨tb, 0, none⟩) 1 1) 10), R 9 #[false, true, false, false, true, false, false, false, false, false, false] { tmps := #[.string s, undef, u2, u3, .slice po lo co, .int .i64 (k : Int), .string s, .int .i64 (s.size : Int), .bool (decide ((s.size : Int) < 1)), .bool (decide ((s.size : Int) < 1)), .string s, .int .i64 (s.size : Int), .bool (decide (200 < (s.size : Int))), .bool (decide ((s.size : Int) < 1) || decide (200 < (s.size : Int))), .bool (decide ((s.size : Int) < 1) || decide (200 < (s.size : Int))), .string s, .int .u8 48, .bool true, .bool true, .string s, .int .i64 (s.size : Int), .bool (decide (1 < (s.size : Int))), .bool (decide (1 < (s.size : Int))), .bool (decide ((s.size : Int) < 1) || decide (200 < (s.size : Int)) || decide (1 < (s.size : Int))), .int .i64 (k : Int), .string s, .int .i64 (s.size : Int), .bool true, u28, u29, .string s, .int .i64 (k : Int), .int .u8 (c : Int), .bool (decide ((c : Int) < 48)), .bool (decide ((c : Int) < 48)), .string s, .int .i64 (k : Int), .int .u8 (c : Int), .bool (decide (57 < (c : Int))), .bool (decide ((c : Int) < 48) || decide (57 < (c : Int))), u40, .slice (some ⟨tb, 0, none⟩) 1 1, u42, u43, .int .i64 (k : Int), u45, u46, u47, u48, u49, undef], defers := [] } W := by
          intro W acc tb ht
          rw [← hR]
          refine wpAnyIn_ready (rs := [0, 3]) (by kernel_rfl) (by simp) ?_
          refine AllReadyIn.cons rfl (fun K hK => ?_) ?_
          · go_simp
            refine hK _ _ ?_
            have h := H11001000000 W acc tb ht
            rw [← hR] at h
            exact h
          refine AllReadyIn.cons rfl (fun K hK => ?_) ?_
          · go_simp
            refine hK _ _ ?_
            have h := H01011000000 W acc tb ht
            rw [← hR] at h
            exact h
          exact AllReadyIn.nil
        have H01000000000 : ∀ (W : World) (acc : Below wr.heap.size wr W) (tb : Nat) (ht : IsNum W (.slice (some ⟨tb, 0, none⟩) 1 1) 10), R 10 #[false, true, false, false, false, false, false, false, false, false, false] { tmps := #[.string s, undef, u2, u3, .slice po lo co, .int .i64 (k : Int), .string s, .int .i64 (s.size : Int), .bool (decide ((s.size : Int) < 1)), .bool (decide ((s.size : Int) < 1)), .string s, .int .i64 (s.size : Int), .bool (decide (200 < (s.size : Int))), .bool (decide ((s.size : Int) < 1) || decide (200 < (s.size : Int))), .bool (decide ((s.size : Int) < 1) || decide (200 < (s.size : Int))), .string s, .int .u8 48, .bool true, .bool true, .string s, .int .i64 (s.size : Int), .bool (decide (1 < (s.size : Int))), .bool (decide (1 < (s.size : Int))), .bool (decide ((s.size : Int) < 1) || decide (200 < (s.size : Int)) || decide (1 < (s.size : Int))), .int .i64 (k : Int), .string s, .int .i64 (s.size : Int), .bool true, u28, u29, .string s, .int .i64 (k : Int), .int .u8 (c : Int), .bool (decide ((c : Int) < 48)), .bool (decide ((c : Int) < 48)), .string s, .int .i64 (k : Int), .int .u8 (c : Int), .bool (decide (57 < (c : Int))), .bool (decide ((c : Int) < 48) || decide (57 < (c : Int))), u40, .slice (some ⟨tb, 0, none⟩) 1 1, u42, u43, u44, u45, u46, u47, u48, u49, undef], defers := [] } W := by
          intro W acc tb ht
          rw [← hR]
          refine wpAnyIn_ready (rs := [0, 3, 4]) (by kernel_rfl) (by simp) ?_
          refine AllReadyIn.cons rfl (fun K hK => ?_) ?_
          · go_simp
            refine hK _ _ ?_
            have h := H11000000000 W acc tb ht
            rw [← hR] at h
            exact h
          refine AllReadyIn.cons rfl (fun K hK => ?_) ?_
          · go_simp
            refine hK _ _ ?_
            have h := H01010000000 W acc tb ht
            rw [← hR] at h
            exact h
          refine AllReadyIn.cons rfl (fun K hK => ?_) ?_
          · go_simp
            refine hK _ _ ?_
            have h := H01001000000 W acc tb ht
            rw [← hR] at h
            exact h
          exact AllReadyIn.nil
        have H00011111000 : ∀ (W : World) (acc : Below wr.heap.size wr W), R 6 #[false, false, false, true, true, true, true, true, false, false, false] { tmps := #[.string s, undef, u2, u3, .slice po lo co, .int .i64 (k : Int), .string s, .int .i64 (s.size : Int), .bool (decide ((s.size : Int) < 1)), .bool (decide ((s.size : Int) < 1)), .string s, .int .i64 (s.size : Int), .bool (decide (200 < (s.size : Int))), .bool (decide ((s.size : Int) < 1) || decide (200 < (s.size : Int))), .bool (decide ((s.size : Int) < 1) || decide (200 < (s.size : Int))), .string s, .int .u8 48, .bool true, .bool true, .string s, .int .i64 (s.size : Int), .bool (decide (1 < (s.size : Int))), .bool (decide (1 < (s.size : Int))), .bool (decide ((s.size : Int) < 1) || decide (200 < (s.size : Int)) || decide (1 < (s.size : Int))), .int .i64 (k : Int), .string s, .int .i64 (s.size : Int), .bool true, u28, u29, .string s, .int .i64 (k : Int), .int .u8 (c : Int), .bool (decide ((c : Int) < 48)), .bool (decide ((c : Int) < 48)), .string s, .int .i64 (k : Int), .int .u8 (c : Int), .bool (decide (57 < (c : Int))), .bool (decide ((c : Int) < 48) || decide (57 < (c : Int))), u40, u41, u42, .string s, .int .i64 (k : Int), .int .u8 (c : Int), .int .u8 D, .int .u64 D, u48, u49, undef], defers := [] } W := by
          intro W acc
          rw [← hR]
          refine wpAnyIn_ready (rs := [0, 1]) (by kernel_rfl) (by simp) ?_
          refine AllReadyIn.cons rfl (fun K hK => ?_) ?_
          · go_simp
            refine hK _ _ ?_
            have h := H10011111000 W acc
            rw [← hR] at h
            exact h
          refine AllReadyIn.cons rfl (fun K hK => ?_) ?_
          · go_simp
            refine hK _ _ ?_
            have h := H01011111000 (W.alloc (.cells #[.int .u32 10] 53)) (acc.alloc acc.size _) W.heap.size (num_ten W)
            rw [← hR] at h
            exact h
          exact AllReadyIn.nil
        have H00011110000 : ∀ (W : World) (acc : Below wr.heap.size wr W), R 7 #[false, false, false, true, true, true, true, false, false, false, false] { tmps := #[.string s, undef, u2, u3, .slice po lo co, .int .i64 (k : Int), .string s, .int .i64 (s.size : Int), .bool (decide ((s.size : Int) < 1)), .bool (decide ((s.size : Int) < 1)), .string s, .int .i64 (s.size : Int), .bool (decide (200 < (s.size : Int))), .bool (decide ((s.size : Int) < 1) || decide (200 < (s.size : Int))), .bool (decide ((s.size : Int) < 1) || decide (200 < (s.size : Int))), .string s, .int .u8 48, .bool true, .bool true, .string s, .int .i64 (s.size : Int), .bool (decide (1 < (s.size : Int))), .bool (decide (1 < (s.size : Int))), .bool (decide ((s.size : Int) < 1) || decide (200 < (s.size : Int)) || decide (1 < (s.size : Int))), .int .i64 (k : Int), .string s, .int .i64 (s.size : Int), .bool true, u28, u29, .string s, .int .i64 (k : Int), .int .u8 (c : Int), .bool (decide ((c : Int) < 48)), .bool (decide ((c : Int) < 48)), .string s, .int .i64 (k : Int), .int .u8 (c : Int), .bool (decide (57 < (c : Int))), .bool (decide ((c : Int) < 48) || decide (57 < (c : Int))), u40, u41, u42, .string s, .int .i64 (k : Int), .int .u8 (c : Int), .int .u8 D, u47, u48, u49, undef], defers := [] } W := by
          intro W acc
          rw [← hR]
          refine wpAnyIn_ready (rs := [0, 1, 7]) (by kernel_rfl) (by simp) ?_
          refine AllReadyIn.cons rfl (fun K hK => ?_) ?_
          · go_simp
            refine hK _ _ ?_
            have h := H10011110000 W acc
            rw [← hR] at h
            exact h
          refine AllReadyIn.cons rfl (fun K hK => ?_) ?_
          · go_simp
            refine hK _ _ ?_
            have h := H01011110000 (W.alloc (.cells #[.int .u32 10] 53)) (acc.alloc acc.size _) W.heap.size (num_ten W)
            rw [← hR] at h
            exact h
          refine AllReadyIn.cons rfl (fun K hK => ?_) ?_
          · go_simp
            refine hK _ _ ?_
            have h := H00011111000 W acc
            rw [← hR] at h
            exact h
          exact AllReadyIn.nil
        have H00011100000 : ∀ (W : World) (acc : Below wr.heap.size wr W), R 8 #[false, false, false, true, true, true, false, false, false, false, false] { tmps := #[.string s, undef, u2, u3, .slice po lo co, .int .i64 (k : Int), .string s, .int .i64 (s.size : Int), .bool (decide ((s.size : Int) < 1)), .bool (decide ((s.size : Int) < 1)), .string s, .int .i64 (s.size : Int), .bool (decide (200 < (s.size : Int))), .bool (decide ((s.size : Int) < 1) || decide (200 < (s.size : Int))), .bool (decide ((s.size : Int) < 1) || decide (200 < (s.size : Int))), .string s, .int .u8 48, .bool true, .bool true, .string s, .int .i64 (s.size : Int), .bool (decide (1 < (s.size : Int))), .bool (decide (1 < (s.size : Int))), .bool (decide ((s.size : Int) < 1) || decide (200 < (s.size : Int)) || decide (1 < (s.size : Int))), .int .i64 (k : Int), .string s, .int .i64 (s.size : Int), .bool true, u28, u29, .string s, .int .i64 (k : Int), .int .u8 (c : Int), .bool (decide ((c : Int) < 48)), .bool (decide ((c : Int) < 48)), .string s, .int .i64 (k : Int), .int .u8 (c : Int), .bool (decide (57 < (c : Int))), .bool (decide ((c : Int) < 48) || decide (57 < (c : Int))), u40, u41, u42, .string s, .int .i64 (k : Int), .int .u8 (c : Int), u46, u47, u48, u49, undef], defers := [] } W := by
          intro W acc
          rw [← hR]
          refine wpAnyIn_ready (rs := [0, 1, 6]) (by kernel_rfl) (by simp) ?_
          refine AllReadyIn.cons rfl (fun K hK => ?_) ?_
          · go_simp
            refine hK _ _ ?_
            have h := H10011100000 W acc
            rw [← hR] at h
            exact h
          refine AllReadyIn.cons rfl (fun K hK => ?_) ?_
          · go_simp
            refine hK _ _ ?_
            have h := H01011100000 (W.alloc (.cells #[.int .u32 10] 53)) (acc.alloc acc.size _) W.heap.size (num_ten W)
            rw [← hR] at h
            exact h
          refine AllReadyIn.cons rfl (fun K hK => ?_) ?_
          · go_simp
            refine hK _ _ ?_
            have h := H00011110000 W acc
            rw [← hR] at h
            exact h
          exact AllReadyIn.nil
        have H00011000000 : ∀ (W : World) (acc : Below wr.heap.size wr W), R 9 #[false, false, false, true, true, false, false, false, false, false, false] { tmps := #[.string s, undef, u2, u3, .slice po lo co, .int .i64 (k : Int), .string s, .int .i64 (s.size : Int), .bool (decide ((s.size : Int) < 1)), .bool (decide ((s.size : Int) < 1)), .string s, .int .i64 (s.size : Int), .bool (decide (200 < (s.size : Int))), .bool (decide ((s.size : Int) < 1) || decide (200 < (s.size : Int))), .bool (decide ((s.size : Int) < 1) || decide (200 < (s.size : Int))), .string s, .int .u8 48, .bool true, .bool true, .string s, .int .i64 (s.size : Int), .bool (decide (1 < (s.size : Int))), .bool (decide (1 < (s.size : Int))), .bool (decide ((s.size : Int) < 1) || decide (200 < (s.size : Int)) || decide (1 < (s.size : Int))), .int .i64 (k : Int), .string s, .int .i64 (s.size : Int), .bool true, u28, u29, .string s, .int .i64 (k : Int), .int .u8 (c : Int), .bool (decide ((c : Int) < 48)), .bool (decide ((c : Int) < 48)), .string s, .int .i64 (k : Int), .int .u8 (c : Int), .bool (decide (57 < (c : Int))), .bool (decide ((c : Int) < 48) || decide (57 < (c : Int))), u40, u41, u42, .string s, .int .i64 (k : Int), u45, u46, u47, u48, u49, undef], defers := [] } W := by
          intro W acc
          rw [← hR]
          refine wpAnyIn_ready (rs := [0, 1, 5]) (by kernel_rfl) (by simp) ?_
          refine AllReadyIn.cons rfl (fun K hK => ?_) ?_
          · go_simp
            refine hK _ _ ?_
            have h := H10011000000 W acc
            rw [← hR] at h
            exact h
          refine AllReadyIn.cons rfl (fun K hK => ?_) ?_
          · go_simp
            refine hK _ _ ?_
            have h := H01011000000 (W.alloc (.cells #[.int .u32 10] 53)) (acc.alloc acc.size _) W.heap.size (num_ten W)
            rw [← hR] at h
            exact h
          refine AllReadyIn.cons rfl (fun K hK => ?_) ?_
          · go_simp
            refine hK _ _ ?_
            have h := H00011100000 W acc
            rw [← hR] at h
            exact h
          exact AllReadyIn.nil
        have H00010000000 : ∀ (W : World) (acc : Below wr.heap.size wr W), R 10 #[false, false, false, true, false, false, false, false, false, false, false] { tmps := #[.string s, undef, u2, u3, .slice po lo co, .int .i64 (k : Int), .string s, .int .i64 (s.size : Int), .bool (decide ((s.size : Int) < 1)), .bool (decide ((s.size : Int) < 1)), .string s, .int .i64 (s.size : Int), .bool (decide (200 < (s.size : Int))), .bool (decide ((s.size : Int) < 1) || decide (200 < (s.size : Int))), .bool (decide ((s.size : Int) < 1) || decide (200 < (s.size : Int))), .string s, .int .u8 48, .bool true, .bool true, .string s, .int .i64 (s.size : Int), .bool (decide (1 < (s.size : Int))), .bool (decide (1 < (s.size : Int))), .bool (decide ((s.size : Int) < 1) || decide (200 < (s.size : Int)) || decide (1 < (s.size : Int))), .int .i64 (k : Int), .string s, .int .i64 (s.size : Int), .bool true, u28, u29, .string s, .int .i64 (k : Int), .int .u8 (c : Int), .bool (decide ((c : Int) < 48)), .bool (decide ((c : Int) < 48)), .string s, .int .i64 (k : Int), .int .u8 (c : Int), .bool (decide (57 < (c : Int))), .bool (decide ((c : Int) < 48) || decide (57 < (c : Int))), u40, u41, u42, .string s, u44, u45, u46, u47, u48, u49, undef], defers := [] } W := by
          intro W acc
          rw [← hR]
          refine wpAnyIn_ready (rs := [0, 1, 4]) (by kernel_rfl) (by simp) ?_
          refine AllReadyIn.cons rfl (fun K hK => ?_) ?_
          · go_simp
            refine hK _ _ ?_
            have h := H10010000000 W acc
            rw [← hR] at h
            exact h
          refine AllReadyIn.cons rfl (fun K hK => ?_) ?_
          · go_simp
            refine hK _ _ ?_
            have h := H01010000000 (W.alloc (.cells #[.int .u32 10] 53)) (acc.alloc acc.size _) W.heap.size (num_ten W)
            rw [← hR] at h
            exact h
          refine AllReadyIn.cons rfl (fun K hK => ?_) ?_
          · go_simp
            refine hK _ _ ?_
            have h := H00011000000 W acc
            rw [← hR] at h
            exact h
          exact AllReadyIn.nil
        have H00001000000 : ∀ (W : World) (acc : Below wr.heap.size wr W), R 10 #[false, false, false, false, true, false, false, false, false, false, false] { tmps := #[.string s, undef, u2, u3, .slice po lo co, .int .i64 (k : Int), .string s, .int .i64 (s.size : Int), .bool (decide ((s.size : Int) < 1)), .bool (decide ((s.size : Int) < 1)), .string s, .int .i64 (s.size : Int), .bool (decide (200 < (s.size : Int))), .bool (decide ((s.size : Int) < 1) || decide (200 < (s.size : Int))), .bool (decide ((s.size : Int) < 1) || decide (200 < (s.size : Int))), .string s, .int .u8 48, .bool true, .bool true, .string s, .int .i64 (s.size : Int), .bool (decide (1 < (s.size : Int))), .bool (decide (1 < (s.size : Int))), .bool (decide ((s.size : Int) < 1) || decide (200 < (s.size : Int)) || decide (1 < (s.size : Int))), .int .i64 (k : Int), .string s, .int .i64 (s.size : Int), .bool true, u28, u29, .string s, .int .i64 (k : Int), .int .u8 (c : Int), .bool (decide ((c : Int) < 48)), .bool (decide ((c : Int) < 48)), .string s, .int .i64 (k : Int), .int .u8 (c : Int), .bool (decide (57 < (c : Int))), .bool (decide ((c : Int) < 48) || decide (57 < (c : Int))), u40, u41, u42, u43, .int .i64 (k : Int), u45, u46, u47, u48, u49, undef], defers := [] } W := by
          intro W acc
          rw [← hR]
          refine wpAnyIn_ready (rs := [0, 1, 3]) (by kernel_rfl) (by simp) ?_
          refine AllReadyIn.cons rfl (fun K hK => ?_) ?_
          · go_simp
            refine hK _ _ ?_
            have h := H10001000000 W acc
            rw [← hR] at h
            exact h
          refine AllReadyIn.cons rfl (fun K hK => ?_) ?_
          · go_simp
            refine hK _ _ ?_
            have h := H01001000000 (W.alloc (.cells #[.int .u32 10] 53)) (acc.alloc acc.size _) W.heap.size (num_ten W)
            rw [← hR] at h
            exact h
          refine AllReadyIn.cons rfl (fun K hK => ?_) ?_
          · go_simp
            refine hK _ _ ?_
            have h := H00011000000 W acc
            rw [← hR] at h
            exact h
          exact AllReadyIn.nil
        have H00000000000 : ∀ (W : World) (acc : Below wr.heap.size wr W), R 11 #[false, false, false, false, false, false, false, false, false, false, false] { tmps := #[.string s, undef, u2, u3, .slice po lo co, .int .i64 (k : Int), .string s, .int .i64 (s.size : Int), .bool (decide ((s.size : Int) < 1)), .bool (decide ((s.size : Int) < 1)), .string s, .int .i64 (s.size : Int), .bool (decide (200 < (s.size : Int))), .bool (decide ((s.size : Int) < 1) || decide (200 < (s.size : Int))), .bool (decide ((s.size : Int) < 1) || decide (200 < (s.size : Int))), .string s, .int .u8 48, .bool true, .bool true, .string s, .int .i64 (s.size : Int), .bool (decide (1 < (s.size : Int))), .bool (decide (1 < (s.size : Int))), .bool (decide ((s.size : Int) < 1) || decide (200 < (s.size : Int)) || decide (1 < (s.size : Int))), .int .i64 (k : Int), .string s, .int .i64 (s.size : Int), .bool true, u28, u29, .string s, .int .i64 (k : Int), .int .u8 (c : Int), .bool (decide ((c : Int) < 48)), .bool (decide ((c : Int) < 48)), .string s, .int .i64 (k : Int), .int .u8 (c : Int), .bool (decide (57 < (c : Int))), .bool (decide ((c : Int) < 48) || decide (57 < (c : Int))), u40, u41, u42, u43, u44, u45, u46, u47, u48, u49, undef], defers := [] } W := by
          intro W acc
          rw [← hR]
          refine wpAnyIn_ready (rs := [0, 1, 3, 4]) (by kernel_rfl) (by simp) ?_
          refine AllReadyIn.cons rfl (fun K hK => ?_) ?_
          · go_simp
            refine hK _ _ ?_
            have h := H10000000000 W acc
            rw [← hR] at h
            exact h
          refine AllReadyIn.cons rfl (fun K hK => ?_) ?_
          · go_simp
            refine hK _ _ ?_
            have h := H01000000000 (W.alloc (.cells #[.int .u32 10] 53)) (acc.alloc acc.size _) W.heap.size (num_ten W)
            rw [← hR] at h
            exact h
          refine AllReadyIn.cons rfl (fun K hK => ?_) ?_
          · go_simp
            refine hK _ _ ?_
            have h := H00010000000 W acc
            rw [← hR] at h
            exact h
          refine AllReadyIn.cons rfl (fun K hK => ?_) ?_
          · go_simp
            refine hK _ _ ?_
            have h := H00001000000 W acc
            rw [← hR] at h
            exact h
          exact AllReadyIn.nil
        exact H00000000000 wr.drew (Below.refl _ wr).drew
      · obtain rfl : k = s.size := by omega
        go_wp2_with fail
        go_ret2
        refine .inl ⟨⟨by omega, by omega, Hd.out, ?_⟩, _, rfl, ho, hB⟩
        have := H3.out
        rw [dg_eq h0]
        omega
  · go_wp2_with fail
    clear h5
    go_loopg [4, 5] s.size (fun g o i wr => ∃ k : Nat, g = s.size - k ∧ k ≤ s.size ∧ i = .int .i64 k ∧ (∀ j, j < k → Dig (dg s j)) ∧ IsNum wr o (decTo s k) ∧ Below w.heap.size w wr)
    case atStart => exact ⟨0, rfl, Nat.zero_le _, rfl, fun j hj => by omega, num_nil _, Below.refl _ _⟩
    case round =>
      obtain ⟨k, hg, hk, rfl, hd, ho, hB⟩ := hrel
      have Hg := Lib.hid hg
      clear hg
      obtain ⟨po, lo, co, rfl⟩ := ho.shape
      have Hd := Lib.hid hd
      clear hd
      by_cases hlt : k < s.size
      · have hdk := dg_eq hlt
        by_cases c1 : s[k].toNat < 48
        · have n1 : ¬ IsDec s := fun h => by have := (h.2.2.1 k hlt).1; omega
          clear hdk
          go_wp2_with fail
          go_ret2
          exact .inr ⟨n1, rfl, hB⟩
        by_cases c2 : 57 < s[k].toNat
        · have n1 : ¬ IsDec s := fun h => by have := (h.2.2.1 k hlt).2; omega
          clear hdk
          go_wp2_with fail
          go_ret2
          exact .inr ⟨n1, rfl, hB⟩
        obtain ⟨c, hc⟩ : ∃ c, s[k].toNat = c := ⟨_, rfl⟩
        rw [hc] at c1 c2 hdk
        obtain ⟨D, hD⟩ : ∃ D, (c : Int) - 48 = D := ⟨_, rfl⟩
        rw [hD] at hdk
        have D0 : 0 ≤ D := by omega
        have D9 : D ≤ 9 := by omega
        have hbd := decTo_bd Hd.out
        obtain ⟨KB, hKB⟩ : ∃ KB, 1000 = KB := ⟨_, rfl⟩
        have e1 : decTo s k < lpw KB := by
          have := lpw_mono (a := k) (b := KB) (by omega)
          omega
        have e2 : decTo s k * 10 < lpw KB := by
          have h1 := lpw_mono (a := k + 1) (b := KB) (by omega)
          have : lpw (k + 1) = 4294967296 * lpw k := rfl
          omega
        have e3 : 10 < lpw KB := by
          have h1 := lpw_mono (a := 1) (b := KB) (by omega)
          have : lpw 1 = 4294967296 := rfl
          omega
        have e4 : D < lpw KB := by omega
        have K1 : KB ≤ 1048576 := by omega
        have E1 := Lib.hid e1
        have E2 := Lib.hid e2
        have E3 := Lib.hid e3
        have E4 := Lib.hid e4
        have Hdk := Lib.hid hdk
        have wD : Word D := ⟨D0, by omega⟩
        have HwD := Lib.hid wD
        have w64 : IntKind.u64.wrap D = D := by rw [IntKind.wrap_u64]; omega
        have w8 : IntKind.u8.wrap D = D := by rw [IntKind.wrap_u8]; omega
        clear hdk hbd e1 e2 e3 e4 hKB wD
        go_wp2_with fail
        refine wpIn_wide (n := 5) |>.1 ?_
        refine region_ways (by kernel_rfl) fun R hR => ?_
        have H11111111111 : ∀ (W : World) (acc : Below wr.heap.size wr W) (tb : Nat) (ht : IsNum W (.slice (some ⟨tb, 0, none⟩) 1 1) 10) (pm : Option Addr) (lm cm : Nat) (hm : IsNum W (.slice pm lm cm) (decTo s k * 10)) (pn : Option Addr) (ln cn : Nat) (hn : IsNum W (.slice pn ln cn) D) (pz : Option Addr) (lz cz : Nat) (hz : IsNum W (.slice pz lz cz) (decTo s k * 10 + D)), R 0 #[true, true, true, true, true, true, true, true, true, true, true] { tmps := #[.string s, undef, u2, u3, .slice pz lz cz, .int .i64 (k : Int), .string s, .int .i64 (s.size : Int), .bool (decide ((s.size : Int) < 1)), .bool (decide ((s.size : Int) < 1)), .string s, .int .i64 (s.size : Int), .bool (decide (200 < (s.size : Int))), .bool (decide ((s.size : Int) < 1) || decide (200 < (s.size : Int))), .bool (decide ((s.size : Int) < 1) || decide (200 < (s.size : Int))), .string s, .int .u8 (s[0].toNat : Int), .bool ((s[0].toNat : Int) == 48), .bool ((s[0].toNat : Int) == 48), undef, undef, undef, .bool false, .bool (decide ((s.size : Int) < 1) || decide (200 < (s.size : Int))), .int .i64 (k : Int), .string s, .int .i64 (s.size : Int), .bool true, u28, u29, .string s, .int .i64 (k : Int), .int .u8 (c : Int), .bool (decide ((c : Int) < 48)), .bool (decide ((c : Int) < 48)), .string s, .int .i64 (k : Int), .int .u8 (c : Int), .bool (decide (57 < (c : Int))), .bool (decide ((c : Int) < 48) || decide (57 < (c : Int))), .slice po lo co, .slice (some ⟨tb, 0, none⟩) 1 1, .slice pm lm cm, .string s, .int .i64 (k : Int), .int .u8 (c : Int), .int .u8 D, .int .u64 D, .slice pn ln cn, .slice pz lz cz, undef], defers := [] } W := by
          intro W acc tb ht pm lm cm hm pn ln cn hn pz lz cz hz
          rw [← hR]
          refine wpAnyIn_done (by kernel_rfl) ?_ _
          go_wp2_with fail
          go_roundg (s.size - (k + 1))
          case measure => have := Hg.out; omega
          case rel => exact ⟨k + 1, rfl, by omega, by go_num, fun j hj => by
              by_cases e : j = k
              · subst e
                rw [Hdk.out]
                exact ⟨D0, D9⟩
              · exact Hd.out j (by omega), by
              show IsNum W _ (decTo s k * 10 + dg s k)
              rw [Hdk.out]
              exact hz, hB.trans (acc.mono hB.size)⟩
        have H11111111110 : ∀ (W : World) (acc : Below wr.heap.size wr W) (tb : Nat) (ht : IsNum W (.slice (some ⟨tb, 0, none⟩) 1 1) 10) (pm : Option Addr) (lm cm : Nat) (hm : IsNum W (.slice pm lm cm) (decTo s k * 10)) (pn : Option Addr) (ln cn : Nat) (hn : IsNum W (.slice pn ln cn) D) (pz : Option Addr) (lz cz : Nat) (hz : IsNum W (.slice pz lz cz) (decTo s k * 10 + D)), R 1 #[true, true, true, true, true, true, true, true, true, true, false] { tmps := #[.string s, undef, u2, u3, .slice po lo co, .int .i64 (k : Int), .string s, .int .i64 (s.size : Int), .bool (decide ((s.size : Int) < 1)), .bool (decide ((s.size : Int) < 1)), .string s, .int .i64 (s.size : Int), .bool (decide (200 < (s.size : Int))), .bool (decide ((s.size : Int) < 1) || decide (200 < (s.size : Int))), .bool (decide ((s.size : Int) < 1) || decide (200 < (s.size : Int))), .string s, .int .u8 (s[0].toNat : Int), .bool ((s[0].toNat : Int) == 48), .bool ((s[0].toNat : Int) == 48), undef, undef, undef, .bool false, .bool (decide ((s.size : Int) < 1) || decide (200 < (s.size : Int))), .int .i64 (k : Int), .string s, .int .i64 (s.size : Int), .bool true, u28, u29, .string s, .int .i64 (k : Int), .int .u8 (c : Int), .bool (decide ((c : Int) < 48)), .bool (decide ((c : Int) < 48)), .string s, .int .i64 (k : Int), .int .u8 (c : Int), .bool (decide (57 < (c : Int))), .bool (decide ((c : Int) < 48) || decide (57 < (c : Int))), .slice po lo co, .slice (some ⟨tb, 0, none⟩) 1 1, .slice pm lm cm, .string s, .int .i64 (k : Int), .int .u8 (c : Int), .int .u8 D, .int .u64 D, .slice pn ln cn, .slice pz lz cz, undef], defers := [] } W := by
          intro W acc tb ht pm lm cm hm pn ln cn hn pz lz cz hz
          rw [← hR]
          refine wpAnyIn_ready (rs := [10]) (by kernel_rfl) (by simp) ?_
          refine AllReadyIn.cons rfl (fun K hK => ?_) ?_
          · go_simp
            refine hK _ _ ?_
            have h := H11111111111 W acc tb ht pm lm cm hm pn ln cn hn pz lz cz hz
            rw [← hR] at h
            exact h
          exact AllReadyIn.nil
        have H11111111100 : ∀ (W : World) (acc : Below wr.heap.size wr W) (tb : Nat) (ht : IsNum W (.slice (some ⟨tb, 0, none⟩) 1 1) 10) (pm : Option Addr) (lm cm : Nat) (hm : IsNum W (.slice pm lm cm) (decTo s k * 10)) (pn : Option Addr) (ln cn : Nat) (hn : IsNum W (.slice pn ln cn) D), R 2 #[true, true, true, true, true, true, true, true, true, false, false] { tmps := #[.string s, undef, u2, u3, .slice po lo co, .int .i64 (k : Int), .string s, .int .i64 (s.size : Int), .bool (decide ((s.size : Int) < 1)), .bool (decide ((s.size : Int) < 1)), .string s, .int .i64 (s.size : Int), .bool (decide (200 < (s.size : Int))), .bool (decide ((s.size : Int) < 1) || decide (200 < (s.size : Int))), .bool (decide ((s.size : Int) < 1) || decide (200 < (s.size : Int))), .string s, .int .u8 (s[0].toNat : Int), .bool ((s[0].toNat : Int) == 48), .bool ((s[0].toNat : Int) == 48), undef, undef, undef, .bool false, .bool (decide ((s.size : Int) < 1) || decide (200 < (s.size : Int))), .int .i64 (k : Int), .string s, .int .i64 (s.size : Int), .bool true, u28, u29, .string s, .int .i64 (k : Int), .int .u8 (c : Int), .bool (decide ((c : Int) < 48)), .bool (decide ((c : Int) < 48)), .string s, .int .i64 (k : Int), .int .u8 (c : Int), .bool (decide (57 < (c : Int))), .bool (decide ((c : Int) < 48) || decide (57 < (c : Int))), .slice po lo co, .slice (some ⟨tb, 0, none⟩) 1 1, .slice pm lm cm, .string s, .int .i64 (k : Int), .int .u8 (c : Int), .int .u8 D, .int .u64 D, .slice pn ln cn, u49, undef], defers := [] } W := by
          intro W acc tb ht pm lm cm hm pn ln cn hn
          rw [← hR]
          refine wpAnyIn_ready (rs := [9]) (by kernel_rfl) (by simp) ?_
          refine AllReadyIn.cons rfl (fun K hK => ?_) ?_
          · go_simp
            gi_wp2_with (refine ⟨trivial, ?_⟩; gi_at_call 24; refine (callsIn_wide.2 (natAdd_num KB K1 _ _ (decTo s k * 10) D W hm hn E2.out E4.out)).mono ?_; rintro e W2 ⟨vz, rfl, hz, hb⟩; obtain ⟨pz, lz, cz, rfl⟩ := hz.shape)
            have h := H11111111110 W2 (below_acc acc acc.size hb) tb (ht.below hb) pm lm cm (hm.below hb) pn ln cn (hn.below hb) pz lz cz hz
            rw [← hR] at h
            exact h
          exact AllReadyIn.nil
        have H11111111000 : ∀ (W : World) (acc : Below wr.heap.size wr W) (tb : Nat) (ht : IsNum W (.slice (some ⟨tb, 0, none⟩) 1 1) 10) (pm : Option Addr) (lm cm : Nat) (hm : IsNum W (.slice pm lm cm) (decTo s k * 10)), R 3 #[true, true, true, true, true, true, true, true, false, false, false] { tmps := #[.string s, undef, u2, u3, .slice po lo co, .int .i64 (k : Int), .string s, .int .i64 (s.size : Int), .bool (decide ((s.size : Int) < 1)), .bool (decide ((s.size : Int) < 1)), .string s, .int .i64 (s.size : Int), .bool (decide (200 < (s.size : Int))), .bool (decide ((s.size : Int) < 1) || decide (200 < (s.size : Int))), .bool (decide ((s.size : Int) < 1) || decide (200 < (s.size : Int))), .string s, .int .u8 (s[0].toNat : Int), .bool ((s[0].toNat : Int) == 48), .bool ((s[0].toNat : Int) == 48), undef, undef, undef, .bool false, .bool (decide ((s.size : Int) < 1) || decide (200 < (s.size : Int))), .int .i64 (k : Int), .string s, .int .i64 (s.size : Int), .bool true, u28, u29, .string s, .int .i64 (k : Int), .int .u8 (c : Int), .bool (decide ((c : Int) < 48)), .bool (decide ((c : Int) < 48)), .string s, .int .i64 (k : Int), .int .u8 (c : Int), .bool (decide (57 < (c : Int))), .bool (decide ((c : Int) < 48) || decide (57 < (c : Int))), .slice po lo co, .slice (some ⟨tb, 0, none⟩) 1 1, .slice pm lm cm, .string s, .int .i64 (k : Int), .int .u8 (c : Int), .int .u8 D, .int .u64 D, u48, u49, undef], defers := [] } W := by
          intro W acc tb ht pm lm cm hm
          rw [← hR]
          refine wpAnyIn_ready (rs := [8]) (by kernel_rfl) (by simp) ?_
          refine AllReadyIn.cons rfl (fun K hK => ?_) ?_
          · go_simp
            gi_wp2_with (refine ⟨trivial, ?_⟩; gi_at_call 26; refine (callsIn_wide.2 (natOf_num D HwD.out W)).mono ?_; rintro e W2 ⟨vn, rfl, hn, hb⟩; obtain ⟨pn, ln, cn, rfl⟩ := hn.shape)
            have h := H11111111100 W2 (below_acc acc acc.size hb) tb (ht.below hb) pm lm cm (hm.below hb) pn ln cn hn
            rw [← hR] at h
            exact h
          exact AllReadyIn.nil
        have H11111110000 : ∀ (W : World) (acc : Below wr.heap.size wr W) (tb : Nat) (ht : IsNum W (.slice (some ⟨tb, 0, none⟩) 1 1) 10) (pm : Option Addr) (lm cm : Nat) (hm : IsNum W (.slice pm lm cm) (decTo s k * 10)), R 4 #[true, true, true, true, true, true, true, false, false, false, false] { tmps := #[.string s, undef, u2, u3, .slice po lo co, .int .i64 (k : Int), .string s, .int .i64 (s.size : Int), .bool (decide ((s.size : Int) < 1)), .bool (decide ((s.size : Int) < 1)), .string s, .int .i64 (s.size : Int), .bool (decide (200 < (s.size : Int))), .bool (decide ((s.size : Int) < 1) || decide (200 < (s.size : Int))), .bool (decide ((s.size : Int) < 1) || decide (200 < (s.size : Int))), .string s, .int .u8 (s[0].toNat : Int), .bool ((s[0].toNat : Int) == 48), .bool ((s[0].toNat : Int) == 48), undef, undef, undef, .bool false, .bool (decide ((s.size : Int) < 1) || decide (200 < (s.size : Int))), .int .i64 (k : Int), .string s, .int .i64 (s.size : Int), .bool true, u28, u29, .string s, .int .i64 (k : Int), .int .u8 (c : Int), .bool (decide ((c : Int) < 48)), .bool (decide ((c : Int) < 48)), .string s, .int .i64 (k : Int), .int .u8 (c : Int), .bool (decide (57 < (c : Int))), .bool (decide ((c : Int) < 48) || decide (57 < (c : Int))), .slice po lo co, .slice (some ⟨tb, 0, none⟩) 1 1, .slice pm lm cm, .string s, .int .i64 (k : Int), .int .u8 (c : Int), .int .u8 D, u47, u48, u49, undef], defers := [] } W := by
          intro W acc tb ht pm lm cm hm
          rw [← hR]
          refine wpAnyIn_ready (rs := [7]) (by kernel_rfl) (by simp) ?_
          refine AllReadyIn.cons rfl (fun K hK => ?_) ?_
          · go_simp
            refine hK _ _ ?_
            have h := H11111111000 W acc tb ht pm lm cm hm
            rw [← hR] at h
            exact h
          exact AllReadyIn.nil
        have H11111100000 : ∀ (W : World) (acc : Below wr.heap.size wr W) (tb : Nat) (ht : IsNum W (.slice (some ⟨tb, 0, none⟩) 1 1) 10) (pm : Option Addr) (lm cm : Nat) (hm : IsNum W (.slice pm lm cm) (decTo s k * 10)), R 5 #[true, true, true, true, true, true, false, false, false, false, false] { tmps := #[.string s, undef, u2, u3, .slice po lo co, .int .i64 (k : Int), .string s, .int .i64 (s.size : Int), .bool (decide ((s.size : Int) < 1)), .bool (decide ((s.size : Int) < 1)), .string s, .int .i64 (s.size : Int), .bool (decide (200 < (s.size : Int))), .bool (decide ((s.size : Int) < 1) || decide (200 < (s.size : Int))), .bool (decide ((s.size : Int) < 1) || decide (200 < (s.size : Int))), .string s, .int .u8 (s[0].toNat : Int), .bool ((s[0].toNat : Int) == 48), .bool ((s[0].toNat : Int) == 48), undef, undef, undef, .bool false, .bool (decide ((s.size : Int) < 1) || decide (200 < (s.size : Int))), .int .i64 (k : Int), .string s, .int .i64 (s.size : Int), .bool true, u28, u29, .string s, .int .i64 (k : Int), .int .u8 (c : Int), .bool (decide ((c : Int) < 48)), .bool (decide ((c : Int) < 48)), .string s, .int .i64 (k : Int), .int .u8 (c : Int), .bool (decide (57 < (c : Int))), .bool (decide ((c : Int) < 48) || decide (57 < (c : Int))), .slice po lo co, .slice (some ⟨tb, 0, none⟩) 1 1, .slice pm lm cm, .string s, .int .i64 (k : Int), .int .u8 (c : Int), u46, u47, u48, u49, undef], defers := [] } W := by
          intro W acc tb ht pm lm cm hm
          rw [← hR]
          refine wpAnyIn_ready (rs := [6]) (by kernel_rfl) (by simp) ?_
          refine AllReadyIn.cons rfl (fun K hK => ?_) ?_
          · go_simp
            refine hK _ _ ?_
            have h := H11111110000 W acc tb ht pm lm cm hm
            rw [← hR] at h
            exact h
          exact AllReadyIn.nil
        have H11111000000 : ∀ (W : World) (acc : Below wr.heap.size wr W) (tb : Nat) (ht : IsNum W (.slice (some ⟨tb, 0, none⟩) 1 1) 10) (pm : Option Addr) (lm cm : Nat) (hm : IsNum W (.slice pm lm cm) (decTo s k * 10)), R 6 #[true, true, true, true, true, false, false, false, false, false, false] { tmps := #[.string s, undef, u2, u3, .slice po lo co, .int .i64 (k : Int), .string s, .int .i64 (s.size : Int), .bool (decide ((s.size : Int) < 1)), .bool (decide ((s.size : Int) < 1)), .string s, .int .i64 (s.size : Int), .bool (decide (200 < (s.size : Int))), .bool (decide ((s.size : Int) < 1) || decide (200 < (s.size : Int))), .bool (decide ((s.size : Int) < 1) || decide (200 < (s.size : Int))), .string s, .int .u8 (s[0].toNat : Int), .bool ((s[0].toNat : Int) == 48), .bool ((s[0].toNat : Int) == 48), undef, undef, undef, .bool false, .bool (decide ((s.size : Int) < 1) || decide (200 < (s.size : Int))), .int .i64 (k : Int), .string s, .int .i64 (s.size : Int), .bool true, u28, u29, .string s, .int .i64 (k : Int), .int .u8 (c : Int), .bool (decide ((c : Int) < 48)), .bool (decide ((c : Int) < 48)), .string s, .int .i64 (k : Int), .int .u8 (c : Int), .bool (decide (57 < (c : Int))), .bool (decide ((c : Int) < 48) || decide (57 < (c : Int))), .slice po lo co, .slice (some ⟨tb, 0, none⟩) 1 1, .slice pm lm cm, .string s, .int .i64 (k : Int), u45, u46, u47, u48, u49, undef], defers := [] } W := by
          intro W acc tb ht pm lm cm hm
          rw [← hR]
          refine wpAnyIn_ready (rs := [5]) (by kernel_rfl) (by simp) ?_
          refine AllReadyIn.cons rfl (fun K hK => ?_) ?_
          · go_simp
            refine hK _ _ ?_
            have h := H11111100000 W acc tb ht pm lm cm hm
            rw [← hR] at h
            exact h
          exact AllReadyIn.nil
        have H11110000000 : ∀ (W : World) (acc : Below wr.heap.size wr W) (tb : Nat) (ht : IsNum W (.slice (some ⟨tb, 0, none⟩) 1 1) 10) (pm : Option Addr) (lm cm : Nat) (hm : IsNum W (.slice pm lm cm) (decTo s k * 10)), R 7 #[true, true, true, true, false, false, false, false, false, false, false] { tmps := #[.string s, undef, u2, u3, .slice po lo co, .int .i64 (k : Int), .string s, .int .i64 (s.size : Int), .bool (decide ((s.size : Int) < 1)), .bool (decide ((s.size : Int) < 1)), .string s, .int .i64 (s.size : Int), .bool (decide (200 < (s.size : Int))), .bool (decide ((s.size : Int) < 1) || decide (200 < (s.size : Int))), .bool (decide ((s.size : Int) < 1) || decide (200 < (s.size : Int))), .string s, .int .u8 (s[0].toNat : Int), .bool ((s[0].toNat : Int) == 48), .bool ((s[0].toNat : Int) == 48), undef, undef, undef, .bool false, .bool (decide ((s.size : Int) < 1) || decide (200 < (s.size : Int))), .int .i64 (k : Int), .string s, .int .i64 (s.size : Int), .bool true, u28, u29, .string s, .int .i64 (k : Int), .int .u8 (c : Int), .bool (decide ((c : Int) < 48)), .bool (decide ((c : Int) < 48)), .string s, .int .i64 (k : Int), .int .u8 (c : Int), .bool (decide (57 < (c : Int))), .bool (decide ((c : Int) < 48) || decide (57 < (c : Int))), .slice po lo co, .slice (some ⟨tb, 0, none⟩) 1 1, .slice pm lm cm, .string s, u44, u45, u46, u47, u48, u49, undef], defers := [] } W := by
          intro W acc tb ht pm lm cm hm
          rw [← hR]
          refine wpAnyIn_ready (rs := [4]) (by kernel_rfl) (by simp) ?_
          refine AllReadyIn.cons rfl (fun K hK => ?_) ?_
          · go_simp
            refine hK _ _ ?_
            have h := H11111000000 W acc tb ht pm lm cm hm
            rw [← hR] at h
            exact h
          exact AllReadyIn.nil
        have H11101000000 : ∀ (W : World) (acc : Below wr.heap.size wr W) (tb : Nat) (ht : IsNum W (.slice (some ⟨tb, 0, none⟩) 1 1) 10) (pm : Option Addr) (lm cm : Nat) (hm : IsNum W (.slice pm lm cm) (decTo s k * 10)), R 7 #[true, true, true, false, true, false, false, false, false, false, false] { tmps := #[.string s, undef, u2, u3, .slice po lo co, .int .i64 (k : Int), .string s, .int .i64 (s.size : Int), .bool (decide ((s.size : Int) < 1)), .bool (decide ((s.size : Int) < 1)), .string s, .int .i64 (s.size : Int), .bool (decide (200 < (s.size : Int))), .bool (decide ((s.size : Int) < 1) || decide (200 < (s.size : Int))), .bool (decide ((s.size : Int) < 1) || decide (200 < (s.size : Int))), .string s, .int .u8 (s[0].toNat : Int), .bool ((s[0].toNat : Int) == 48), .bool ((s[0].toNat : Int) == 48), undef, undef, undef, .bool false, .bool (decide ((s.size : Int) < 1) || decide (200 < (s.size : Int))), .int .i64 (k : Int), .string s, .int .i64 (s.size : Int), .bool true, u28, u29, .string s, .int .i64 (k : Int), .int .u8 (c : Int), .bool (decide ((c : Int) < 48)), .bool (decide ((c : Int) < 48)), .string s, .int .i64 (k : Int), .int .u8 (c : Int), .bool (decide (57 < (c : Int))), .bool (decide ((c : Int) < 48) || decide (57 < (c : Int))), .slice po lo co, .slice (some ⟨tb, 0, none⟩) 1 1, .slice pm lm cm, u43, .int .i64 (k : Int), u45, u46, u47, u48, u49, undef], defers := [] } W := by
          intro W acc tb ht pm lm cm hm
          rw [← hR]
          refine wpAnyIn_ready (rs := [3]) (by kernel_rfl) (by simp) ?_
          refine AllReadyIn.cons rfl (fun K hK => ?_) ?_
          · go_simp
            refine hK _ _ ?_
            have h := H11111000000 W acc tb ht pm lm cm hm
            rw [← hR] at h
            exact h
          exact AllReadyIn.nil
        have H11100000000 : ∀ (W : World) (acc : Below wr.heap.size wr W) (tb : Nat) (ht : IsNum W (.slice (some ⟨tb, 0, none⟩) 1 1) 10) (pm : Option Addr) (lm cm : Nat) (hm : IsNum W (.slice pm lm cm) (decTo s k * 10)), R 8 #[true, true, true, false, false, false, false, false, false, false, false] { tmps := #[.string s, undef, u2, u3, .slice po lo co, .int .i64 (k : Int), .string s, .int .i64 (s.size : Int), .bool (decide ((s.size : Int) < 1)), .bool (decide ((s.size : Int) < 1)), .string s, .int .i64 (s.size : Int), .bool (decide (200 < (s.size : Int))), .bool (decide ((s.size : Int) < 1) || decide (200 < (s.size : Int))), .bool (decide ((s.size : Int) < 1) || decide (200 < (s.size : Int))), .string s, .int .u8 (s[0].toNat : Int), .bool ((s[0].toNat : Int) == 48), .bool ((s[0].toNat : Int) == 48), undef, undef, undef, .bool false, .bool (decide ((s.size : Int) < 1) || decide (200 < (s.size : Int))), .int .i64 (k : Int), .string s, .int .i64 (s.size : Int), .bool true, u28, u29, .string s, .int .i64 (k : Int), .int .u8 (c : Int), .bool (decide ((c : Int) < 48)), .bool (decide ((c : Int) < 48)), .string s, .int .i64 (k : Int), .int .u8 (c : Int), .bool (decide (57 < (c : Int))), .bool (decide ((c : Int) < 48) || decide (57 < (c : Int))), .slice po lo co, .slice (some ⟨tb, 0, none⟩) 1 1, .slice pm lm cm, u43, u44, u45, u46, u47, u48, u49, undef], defers := [] } W := by
          intro W acc tb ht pm lm cm hm
          rw [← hR]
          refine wpAnyIn_ready (rs := [3, 4]) (by kernel_rfl) (by simp) ?_
          refine AllReadyIn.cons rfl (fun K hK => ?_) ?_
          · go_simp
            refine hK _ _ ?_
            have h := H11110000000 W acc tb ht pm lm cm hm
            rw [← hR] at h
            exact h
          refine AllReadyIn.cons rfl (fun K hK => ?_) ?_
          · go_simp
            refine hK _ _ ?_
            have h := H11101000000 W acc tb ht pm lm cm hm
            rw [← hR] at h
            exact h
          exact AllReadyIn.nil
        have H11011111000 : ∀ (W : World) (acc : Below wr.heap.size wr W) (tb : Nat) (ht : IsNum W (.slice (some ⟨tb, 0, none⟩) 1 1) 10), R 4 #[true, true, false, true, true, true, true, true, false, false, false] { tmps := #[.string s, undef, u2, u3, .slice po lo co, .int .i64 (k : Int), .string s, .int .i64 (s.size : Int), .bool (decide ((s.size : Int) < 1)), .bool (decide ((s.size : Int) < 1)), .string s, .int .i64 (s.size : Int), .bool (decide (200 < (s.size : Int))), .bool (decide ((s.size : Int) < 1) || decide (200 < (s.size : Int))), .bool (decide ((s.size : Int) < 1) || decide (200 < (s.size : Int))), .string s, .int .u8 (s[0].toNat : Int), .bool ((s[0].toNat : Int) == 48), .bool ((s[0].toNat : Int) == 48), undef, undef, undef, .bool false, .bool (decide ((s.size : Int) < 1) || decide (200 < (s.size : Int))), .int .i64 (k : Int), .string s, .int .i64 (s.size : Int), .bool true, u28, u29, .string s, .int .i64 (k : Int), .int .u8 (c : Int), .bool (decide ((c : Int) < 48)), .bool (decide ((c : Int) < 48)), .string s, .int .i64 (k : Int), .int .u8 (c : Int), .bool (decide (57 < (c : Int))), .bool (decide ((c : Int) < 48) || decide (57 < (c : Int))), .slice po lo co, .slice (some ⟨tb, 0, none⟩) 1 1, u42, .string s, .int .i64 (k : Int), .int .u8 (c : Int), .int .u8 D, .int .u64 D, u48, u49, undef], defers := [] } W := by
          intro W acc tb ht
          rw [← hR]
          refine wpAnyIn_ready (rs := [2]) (by kernel_rfl) (by simp) ?_
          refine AllReadyIn.cons rfl (fun K hK => ?_) ?_
          · go_simp
            gi_wp2_with (refine ⟨trivial, ?_⟩; gi_at_call 25; refine (callsIn_wide.2 (natMul_num KB K1 _ _ (decTo s k) 10 W (ho.below acc) ht E1.out E3.out)).mono ?_; rintro e W2 ⟨vm, rfl, hm, hb⟩; obtain ⟨pm, lm, cm, rfl⟩ := hm.shape)
            have h := H11111111000 W2 (below_acc acc acc.size hb) tb (ht.below hb) pm lm cm hm
            rw [← hR] at h
            exact h
          exact AllReadyIn.nil
        have H11011110000 : ∀ (W : World) (acc : Below wr.heap.size wr W) (tb : Nat) (ht : IsNum W (.slice (some ⟨tb, 0, none⟩) 1 1) 10), R 5 #[true, true, false, true, true, true, true, false, false, false, false] { tmps := #[.string s, undef, u2, u3, .slice po lo co, .int .i64 (k : Int), .string s, .int .i64 (s.size : Int), .bool (decide ((s.size : Int) < 1)), .bool (decide ((s.size : Int) < 1)), .string s, .int .i64 (s.size : Int), .bool (decide (200 < (s.size : Int))), .bool (decide ((s.size : Int) < 1) || decide (200 < (s.size : Int))), .bool (decide ((s.size : Int) < 1) || decide (200 < (s.size : Int))), .string s, .int .u8 (s[0].toNat : Int), .bool ((s[0].toNat : Int) == 48), .bool ((s[0].toNat : Int) == 48), undef, undef, undef, .bool false, .bool (decide ((s.size : Int) < 1) || decide (200 < (s.size : Int))), .int .i64 (k : Int), .string s, .int .i64 (s.size : Int), .bool true, u28, u29, .string s, .int .i64 (k : Int), .int .u8 (c : Int), .bool (decide ((c : Int) < 48)), .bool (decide ((c : Int) < 48)), .string s, .int .i64 (k : Int), .int .u8 (c : Int), .bool (decide (57 < (c : Int))), .bool (decide ((c : Int) < 48) || decide (57 < (c : Int))), .slice po lo co, .slice (some ⟨tb, 0, none⟩) 1 1, u42, .string s, .int .i64 (k : Int), .int .u8 (c : Int), .int .u8 D, u47, u48, u49, undef], defers := [] } W := by
          intro W acc tb ht
          rw [← hR]
          refine wpAnyIn_ready (rs := [2, 7]) (by kernel_rfl) (by simp) ?_
          refine AllReadyIn.cons rfl (fun K hK => ?_) ?_
          · go_simp
            gi_wp2_with (refine ⟨trivial, ?_⟩; gi_at_call 25; refine (callsIn_wide.2 (natMul_num KB K1 _ _ (decTo s k) 10 W (ho.below acc) ht E1.out E3.out)).mono ?_; rintro e W2 ⟨vm, rfl, hm, hb⟩; obtain ⟨pm, lm, cm, rfl⟩ := hm.shape)
            have h := H11111110000 W2 (below_acc acc acc.size hb) tb (ht.below hb) pm lm cm hm
            rw [← hR] at h
            exact h
          refine AllReadyIn.cons rfl (fun K hK => ?_) ?_
          · go_simp
            refine hK _ _ ?_
            have h := H11011111000 W acc tb ht
            rw [← hR] at h
            exact h
          exact AllReadyIn.nil
        have H11011100000 : ∀ (W : World) (acc : Below wr.heap.size wr W) (tb : Nat) (ht : IsNum W (.slice (some ⟨tb, 0, none⟩) 1 1) 10), R 6 #[true, true, false, true, true, true, false, false, false, false, false] { tmps := #[.string s, undef, u2, u3, .slice po lo co, .int .i64 (k : Int), .string s, .int .i64 (s.size : Int), .bool (decide ((s.size : Int) < 1)), .bool (decide ((s.size : Int) < 1)), .string s, .int .i64 (s.size : Int), .bool (decide (200 < (s.size : Int))), .bool (decide ((s.size : Int) < 1) || decide (200 < (s.size : Int))), .bool (decide ((s.size : Int) < 1) || decide (200 < (s.size : Int))), .string s, .int .u8 (s[0].toNat : Int), .bool ((s[0].toNat : Int) == 48), .bool ((s[0].toNat : Int) == 48), undef, undef, undef, .bool false, .bool (decide ((s.size : Int) < 1) || decide (200 < (s.size : Int))), .int .i64 (k : Int), .string s, .int .i64 (s.size : Int), .bool true, u28, u29, .string s, .int .i64 (k : Int), .int .u8 (c : Int), .bool (decide ((c : Int) < 48)), .bool (decide ((c : Int) < 48)), .string s, .int .i64 (k : Int), .int .u8 (c : Int), .bool (decide (57 < (c : Int))), .bool (decide ((c : Int) < 48) || decide (57 < (c : Int))), .slice po lo co, .slice (some ⟨tb, 0, none⟩) 1 1, u42, .string s, .int .i64 (k : Int), .int .u8 (c : Int), u46, u47, u48, u49, undef], defers := [] } W := by
          intro W acc tb ht
          rw [← hR]
          refine wpAnyIn_ready (rs := [2, 6]) (by kernel_rfl) (by simp) ?_
          refine AllReadyIn.cons rfl (fun K hK => ?_) ?_
          · go_simp
            gi_wp2_with (refine ⟨trivial, ?_⟩; gi_at_call 25; refine (callsIn_wide.2 (natMul_num KB K1 _ _ (decTo s k) 10 W (ho.below acc) ht E1.out E3.out)).mono ?_; rintro e W2 ⟨vm, rfl, hm, hb⟩; obtain ⟨pm, lm, cm, rfl⟩ := hm.shape)
            have h := H11111100000 W2 (below_acc acc acc.size hb) tb (ht.below hb) pm lm cm hm
            rw [← hR] at h
            exact h
          refine AllReadyIn.cons rfl (fun K hK => ?_) ?_
          · go_simp
            refine hK _ _ ?_
            have h := H11011110000 W acc tb ht
            rw [← hR] at h
            exact h
          exact AllReadyIn.nil
        have H11011000000 : ∀ (W : World) (acc : Below wr.heap.size wr W) (tb : Nat) (ht : IsNum W (.slice (some ⟨tb, 0, none⟩) 1 1) 10), R 7 #[true, true, false, true, true, false, false, false, false, false, false] { tmps := #[.string s, undef, u2, u3, .slice po lo co, .int .i64 (k : Int), .string s, .int .i64 (s.size : Int), .bool (decide ((s.size : Int) < 1)), .bool (decide ((s.size : Int) < 1)), .string s, .int .i64 (s.size : Int), .bool (decide (200 < (s.size : Int))), .bool (decide ((s.size : Int) < 1) || decide (200 < (s.size : Int))), .bool (decide ((s.size : Int) < 1) || decide (200 < (s.size : Int))), .string s, .int .u8 (s[0].toNat : Int), .bool ((s[0].toNat : Int) == 48), .bool ((s[0].toNat : Int) == 48), undef, undef, undef, .bool false, .bool (decide ((s.size : Int) < 1) || decide (200 < (s.size : Int))), .int .i64 (k : Int), .string s, .int .i64 (s.size : Int), .bool true, u28, u29, .string s, .int .i64 (k : Int), .int .u8 (c : Int), .bool (decide ((c : Int) < 48)), .bool (decide ((c : Int) < 48)), .string s, .int .i64 (k : Int), .int .u8 (c : Int), .bool (decide (57 < (c : Int))), .bool (decide ((c : Int) < 48) || decide (57 < (c : Int))), .slice po lo co, .slice (some ⟨tb, 0, none⟩) 1 1, u42, .string s, .int .i64 (k : Int), u45, u46, u47, u48, u49, undef], defers := [] } W := by
          intro W acc tb ht
          rw [← hR]
          refine wpAnyIn_ready (rs := [2, 5]) (by kernel_rfl) (by simp) ?_
          refine AllReadyIn.cons rfl (fun K hK => ?_) ?_
          · go_simp
            gi_wp2_with (refine ⟨trivial, ?_⟩; gi_at_call 25; refine (callsIn_wide.2 (natMul_num KB K1 _ _ (decTo s k) 10 W (ho.below acc) ht E1.out E3.out)).mono ?_; rintro e W2 ⟨vm, rfl, hm, hb⟩; obtain ⟨pm, lm, cm, rfl⟩ := hm.shape)
            have h := H11111000000 W2 (below_acc acc acc.size hb) tb (ht.below hb) pm lm cm hm
            rw [← hR] at h
            exact h
          refine AllReadyIn.cons rfl (fun K hK => ?_) ?_
          · go_simp
            refine hK _ _ ?_
            have h := H11011100000 W acc tb ht
            rw [← hR] at h
            exact h
          exact AllReadyIn.nil
        have H11010000000 : ∀ (W : World) (acc : Below wr.heap.size wr W) (tb : Nat) (ht : IsNum W (.slice (some ⟨tb, 0, none⟩) 1 1) 10), R 8 #[true, true, false, true, false, false, false, false, false, false, false] { tmps := #[.string s, undef, u2, u3, .slice po lo co, .int .i64 (k : Int), .string s, .int .i64 (s.size : Int), .bool (decide ((s.size : Int) < 1)), .bool (decide ((s.size : Int) < 1)), .string s, .int .i64 (s.size : Int), .bool (decide (200 < (s.size : Int))), .bool (decide ((s.size : Int) < 1) || decide (200 < (s.size : Int))), .bool (decide ((s.size : Int) < 1) || decide (200 < (s.size : Int))), .string s, .int .u8 (s[0].toNat : Int), .bool ((s[0].toNat : Int) == 48), .bool ((s[0].toNat : Int) == 48), undef, undef, undef, .bool false, .bool (decide ((s.size : Int) < 1) || decide (200 < (s.size : Int))), .int .i64 (k : Int), .string s, .int .i64 (s.size : Int), .bool true, u28, u29, .string s, .int .i64 (k : Int), .int .u8 (c : Int), .bool (decide ((c : Int) < 48)), .bool (decide ((c : Int) < 48)), .string s, .int .i64 (k : Int), .int .u8 (c : Int), .bool (decide (57 < (c : Int))), .bool (decide ((c : Int) < 48) || decide (57 < (c : Int))), .slice po lo co, .slice (some ⟨tb, 0, none⟩) 1 1, u42, .string s, u44, u45, u46, u47, u48, u49, undef], defers := [] } W := by
          intro W acc tb ht
          rw [← hR]
          refine wpAnyIn_ready (rs := [2, 4]) (by kernel_rfl) (by simp) ?_
          refine AllReadyIn.cons rfl (fun K hK => ?_) ?_
          · go_simp
            gi_wp2_with (refine ⟨trivial, ?_⟩; gi_at_call 25; refine (callsIn_wide.2 (natMul_num KB K1 _ _ (decTo s k) 10 W (ho.below acc) ht E1.out E3.out)).mono ?_; rintro e W2 ⟨vm, rfl, hm, hb⟩; obtain ⟨pm, lm, cm, rfl⟩ := hm.shape)
            have h := H11110000000 W2 (below_acc acc acc.size hb) tb (ht.below hb) pm lm cm hm
            rw [← hR] at h
            exact h
          refine AllReadyIn.cons rfl (fun K hK => ?_) ?_
          · go_simp
            refine hK _ _ ?_
            have h := H11011000000 W acc tb ht
            rw [← hR] at h
            exact h
          exact AllReadyIn.nil
        have H11001000000 : ∀ (W : World) (acc : Below wr.heap.size wr W) (tb : Nat) (ht : IsNum W (.slice (some ⟨tb, 0, none⟩) 1 1) 10), R 8 #[true, true, false, false, true, false, false, false, false, false, false] { tmps := #[.string s, undef, u2, u3, .slice po lo co, .int .i64 (k : Int), .string s, .int .i64 (s.size : Int), .bool (decide ((s.size : Int) < 1)), .bool (decide ((s.size : Int) < 1)), .string s, .int .i64 (s.size : Int), .bool (decide (200 < (s.size : Int))), .bool (decide ((s.size : Int) < 1) || decide (200 < (s.size : Int))), .bool (decide ((s.size : Int) < 1) || decide (200 < (s.size : Int))), .string s, .int .u8 (s[0].toNat : Int), .bool ((s[0].toNat : Int) == 48), .bool ((s[0].toNat : Int) == 48), undef, undef, undef, .bool false, .bool (decide ((s.size : Int) < 1) || decide (200 < (s.size : Int))), .int .i64 (k : Int), .string s, .int .i64 (s.size : Int), .bool true, u28, u29, .string s, .int .i64 (k : Int), .int .u8 (c : Int), .bool (decide ((c : Int) < 48)), .bool (decide ((c : Int) < 48)), .string s, .int .i64 (k : Int), .int .u8 (c : Int), .bool (decide (57 < (c : Int))), .bool (decide ((c : Int) < 48) || decide (57 < (c : Int))), .slice po lo co, .slice (some ⟨tb, 0, none⟩) 1 1, u42, u43, .int .i64 (k : Int), u45, u46, u47, u48, u49, undef], defers := [] } W := by
          intro W acc tb ht
          rw [← hR]
          refine wpAnyIn_ready (rs := [2, 3]) (by kernel_rfl) (by simp) ?_
          refine AllReadyIn.cons rfl (fun K hK => ?_) ?_
          · go_simp
            gi_wp2_with (refine ⟨trivial, ?_⟩; gi_at_call 25; refine (callsIn_wide.2 (natMul_num KB K1 _ _ (decTo s k) 10 W (ho.below acc) ht E1.out E3.out)).mono ?_; rintro e W2 ⟨vm, rfl, hm, hb⟩; obtain ⟨pm, lm, cm, rfl⟩ := hm.shape)
            have h := H11101000000 W2 (below_acc acc acc.size hb) tb (ht.below hb) pm lm cm hm
            rw [← hR] at h
            exact h
          refine AllReadyIn.cons rfl (fun K hK => ?_) ?_
          · go_simp
            refine hK _ _ ?_
            have h := H11011000000 W acc tb ht
            rw [← hR] at h
            exact h
          exact AllReadyIn.nil
        have H11000000000 : ∀ (W : World) (acc : Below wr.heap.size wr W) (tb : Nat) (ht : IsNum W (.slice (some ⟨tb, 0, none⟩) 1 1) 10), R 9 #[true, true, false, false, false, false, false, false, false, false, false] { tmps := #[.string s, undef, u2, u3, .slice po lo co, .int .i64 (k : Int), .string s, .int .i64 (s.size : Int), .bool (decide ((s.size : Int) < 1)), .bool (decide ((s.size : Int) < 1)), .string s, .int .i64 (s.size : Int), .bool (decide (200 < (s.size : Int))), .bool (decide ((s.size : Int) < 1) || decide (200 < (s.size : Int))), .bool (decide ((s.size : Int) < 1) || decide (200 < (s.size : Int))), .string s, .int .u8 (s[0].toNat : Int), .bool ((s[0].toNat : Int) == 48), .bool ((s[0].toNat : Int) == 48), undef, undef, undef, .bool false, .bool (decide ((s.size : Int) < 1) || decide (200 < (s.size : Int))), .int .i64 (k : Int), .string s, .int .i64 (s.size : Int), .bool true, u28, u29, .string s, .int .i64 (k : Int), .int .u8 (c : Int), .bool (decide ((c : Int) < 48)), .bool (decide ((c : Int) < 48)), .string s, .int .i64 (k : Int), .int .u8 (c : Int), .bool (decide (57 < (c : Int))), .bool (decide ((c : Int) < 48) || decide (57 < (c : Int))), .slice po lo co, .slice (some ⟨tb, 0, none⟩) 1 1, u42, u43, u44, u45, u46, u47, u48, u49, undef], defers := [] } W := by
          intro W acc tb ht
          rw [← hR]
          refine wpAnyIn_ready (rs := [2, 3, 4]) (by kernel_rfl) (by simp) ?_
          refine AllReadyIn.cons rfl (fun K hK => ?_) ?_
          · go_simp
            gi_wp2_with (refine ⟨trivial, ?_⟩; gi_at_call 25; refine (callsIn_wide.2 (natMul_num KB K1 _ _ (decTo s k) 10 W (ho.below acc) ht E1.out E3.out)).mono ?_; rintro e W2 ⟨vm, rfl, hm, hb⟩; obtain ⟨pm, lm, cm, rfl⟩ := hm.shape)
            have h := H11100000000 W2 (below_acc acc acc.size hb) tb (ht.below hb) pm lm cm hm
            rw [← hR] at h
            exact h
          refine AllReadyIn.cons rfl (fun K hK => ?_) ?_
          · go_simp
            refine hK _ _ ?_
            have h := H11010000000 W acc tb ht
            rw [← hR] at h
            exact h
          refine AllReadyIn.cons rfl (fun K hK => ?_) ?_
          · go_simp
            refine hK _ _ ?_
            have h := H11001000000 W acc tb ht
            rw [← hR] at h
            exact h
          exact AllReadyIn.nil
        have H10011111000 : ∀ (W : World) (acc : Below wr.heap.size wr W), R 5 #[true, false, false, true, true, true, true, true, false, false, false] { tmps := #[.string s, undef, u2, u3, .slice po lo co, .int .i64 (k : Int), .string s, .int .i64 (s.size : Int), .bool (decide ((s.size : Int) < 1)), .bool (decide ((s.size : Int) < 1)), .string s, .int .i64 (s.size : Int), .bool (decide (200 < (s.size : Int))), .bool (decide ((s.size : Int) < 1) || decide (200 < (s.size : Int))), .bool (decide ((s.size : Int) < 1) || decide (200 < (s.size : Int))), .string s, .int .u8 (s[0].toNat : Int), .bool ((s[0].toNat : Int) == 48), .bool ((s[0].toNat : Int) == 48), undef, undef, undef, .bool false, .bool (decide ((s.size : Int) < 1) || decide (200 < (s.size : Int))), .int .i64 (k : Int), .string s, .int .i64 (s.size : Int), .bool true, u28, u29, .string s, .int .i64 (k : Int), .int .u8 (c : Int), .bool (decide ((c : Int) < 48)), .bool (decide ((c : Int) < 48)), .string s, .int .i64 (k : Int), .int .u8 (c : Int), .bool (decide (57 < (c : Int))), .bool (decide ((c : Int) < 48) || decide (57 < (c : Int))), .slice po lo co, u41, u42, .string s, .int .i64 (k : Int), .int .u8 (c : Int), .int .u8 D, .int .u64 D, u48, u49, undef], defers := [] } W := by
          intro W acc
          rw [← hR]
          refine wpAnyIn_ready (rs := [1]) (by kernel_rfl) (by simp) ?_
          refine AllReadyIn.cons rfl (fun K hK => ?_) ?_
          · go_simp
            refine hK _ _ ?_
            have h := H11011111000 (W.alloc (.cells #[.int .u32 10] 53)) (acc.alloc acc.size _) W.heap.size (num_ten W)
            rw [← hR] at h
            exact h
          exact AllReadyIn.nil
        have H10011110000 : ∀ (W : World) (acc : Below wr.heap.size wr W), R 6 #[true, false, false, true, true, true, true, false, false, false, false] { tmps := #[.string s, undef, u2, u3, .slice po lo co, .int .i64 (k : Int), .string s, .int .i64 (s.size : Int), .bool (decide ((s.size : Int) < 1)), .bool (decide ((s.size : Int) < 1)), .string s, .int .i64 (s.size : Int), .bool (decide (200 < (s.size : Int))), .bool (decide ((s.size : Int) < 1) || decide (200 < (s.size : Int))), .bool (decide ((s.size : Int) < 1) || decide (200 < (s.size : Int))), .string s, .int .u8 (s[0].toNat : Int), .bool ((s[0].toNat : Int) == 48), .bool ((s[0].toNat : Int) == 48), undef, undef, undef, .bool false, .bool (decide ((s.size : Int) < 1) || decide (200 < (s.size : Int))), .int .i64 (k : Int), .string s, .int .i64 (s.size : Int), .bool true, u28, u29, .string s, .int .i64 (k : Int), .int .u8 (c : Int), .bool (decide ((c : Int) < 48)), .bool (decide ((c : Int) < 48)), .string s, .int .i64 (k : Int), .int .u8 (c : Int), .bool (decide (57 < (c : Int))), .bool (decide ((c : Int) < 48) || decide (57 < (c : Int))), .slice po lo co, u41, u42, .string s, .int .i64 (k : Int), .int .u8 (c : Int), .int .u8 D, u47, u48, u49, undef], defers := [] } W := by
          intro W acc
          rw [← hR]
          refine wpAnyIn_ready (rs := [1, 7]) (by kernel_rfl) (by simp) ?_
          refine AllReadyIn.cons rfl (fun K hK => ?_) ?_
          · go_simp
            refine hK _ _ ?_
            have h := H11011110000 (W.alloc (.cells #[.int .u32 10] 53)) (acc.alloc acc.size _) W.heap.size (num_ten W)
            rw [← hR] at h
            exact h
          refine AllReadyIn.cons rfl (fun K hK => ?_) ?_
          · go_simp
            refine hK _ _ ?_
            have h := H10011111000 W acc
            rw [← hR] at h
            exact h
          exact AllReadyIn.nil
        have H10011100000 : ∀ (W : World) (acc : Below wr.heap.size wr W), R 7 #[true, false, false, true, true, true, false, false, false, false, false] { tmps := #[.string s, undef, u2, u3, .slice po lo co, .int .i64 (k : Int), .string s, .int .i64 (s.size : Int), .bool (decide ((s.size : Int) < 1)), .bool (decide ((s.size : Int) < 1)), .string s, .int .i64 (s.size : Int), .bool (decide (200 < (s.size : Int))), .bool (decide ((s.size : Int) < 1) || decide (200 < (s.size : Int))), .bool (decide ((s.size : Int) < 1) || decide (200 < (s.size : Int))), .string s, .int .u8 (s[0].toNat : Int), .bool ((s[0].toNat : Int) == 48), .bool ((s[0].toNat : Int) == 48), undef, undef, undef, .bool false, .bool (decide ((s.size : Int) < 1) || decide (200 < (s.size : Int))), .int .i64 (k : Int), .string s, .int .i64 (s.size : Int), .bool true, u28, u29, .string s, .int .i64 (k : Int), .int .u8 (c : Int), .bool (decide ((c : Int) < 48)), .bool (decide ((c : Int) < 48)), .string s, .int .i64 (k : Int), .int .u8 (c : Int), .bool (decide (57 < (c : Int))), .bool (decide ((c : Int) < 48) || decide (57 < (c : Int))), .slice po lo co, u41, u42, .string s, .int .i64 (k : Int), .int .u8 (c : Int), u46, u47, u48, u49, undef], defers := [] } W := by
          intro W acc
          rw [← hR]
          refine wpAnyIn_ready (rs := [1, 6]) (by kernel_rfl) (by simp) ?_
          refine AllReadyIn.cons rfl (fun K hK => ?_) ?_
          · go_simp
            refine hK _ _ ?_
            have h := H11011100000 (W.alloc (.cells #[.int .u32 10] 53)) (acc.alloc acc.size _) W.heap.size (num_ten W)
            rw [← hR] at h
            exact h
          refine AllReadyIn.cons rfl (fun K hK => ?_) ?_
          · go_simp
            refine hK _ _ ?_
            have h := H10011110000 W acc
            rw [← hR] at h
            exact h
          exact AllReadyIn.nil
        have H10011000000 : ∀ (W : World) (acc : Below wr.heap.size wr W), R 8 #[true, false, false, true, true, false, false, false, false, false, false] { tmps := #[.string s, undef, u2, u3, .slice po lo co, .int .i64 (k : Int), .string s, .int .i64 (s.size : Int), .bool (decide ((s.size : Int) < 1)), .bool (decide ((s.size : Int) < 1)), .string s, .int .i64 (s.size : Int), .bool (decide (200 < (s.size : Int))), .bool (decide ((s.size : Int) < 1) || decide (200 < (s.size : Int))), .bool (decide ((s.size : Int) < 1) || decide (200 < (s.size : Int))), .string s, .int .u8 (s[0].toNat : Int), .bool ((s[0].toNat : Int) == 48), .bool ((s[0].toNat : Int) == 48), undef, undef, undef, .bool false, .bool (decide ((s.size : Int) < 1) || decide (200 < (s.size : Int))), .int .i64 (k : Int), .string s, .int .i64 (s.size : Int), .bool true, u28, u29, .string s, .int .i64 (k : Int), .int .u8 (c : Int), .bool (decide ((c : Int) < 48)), .bool (decide ((c : Int) < 48)), .string s, .int .i64 (k : Int), .int .u8 (c : Int), .bool (decide (57 < (c : Int))), .bool (decide ((c : Int) < 48) || decide (57 < (c : Int))), .slice po lo co, u41, u42, .string s, .int .i64 (k : Int), u45, u46, u47, u48, u49, undef], defers := [] } W := by
          intro W acc
          rw [← hR]
          refine wpAnyIn_ready (rs := [1, 5]) (by kernel_rfl) (by simp) ?_
          refine AllReadyIn.cons rfl (fun K hK => ?_) ?_
          · go_simp
            refine hK _ _ ?_
            have h := H11011000000 (W.alloc (.cells #[.int .u32 10] 53)) (acc.alloc acc.size _) W.heap.size (num_ten W)
            rw [← hR] at h
            exact h
          refine AllReadyIn.cons rfl (fun K hK => ?_) ?_
          · go_simp
            refine hK _ _ ?_
            have h := H10011100000 W acc
            rw [← hR] at h
            exact h
          exact AllReadyIn.nil
        have H10010000000 : ∀ (W : World) (acc : Below wr.heap.size wr W), R 9 #[true, false, false, true, false, false, false, false, false, false, false] { tmps := #[.string s, undef, u2, u3, .slice po lo co, .int .i64 (k : Int), .string s, .int .i64 (s.size : Int), .bool (decide ((s.size : Int) < 1)), .bool (decide ((s.size : Int) < 1)), .string s, .int .i64 (s.size : Int), .bool (decide (200 < (s.size : Int))), .bool (decide ((s.size : Int) < 1) || decide (200 < (s.size : Int))), .bool (decide ((s.size : Int) < 1) || decide (200 < (s.size : Int))), .string s, .int .u8 (s[0].toNat : Int), .bool ((s[0].toNat : Int) == 48), .bool ((s[0].toNat : Int) == 48), undef, undef, undef, .bool false, .bool (decide ((s.size : Int) < 1) || decide (200 < (s.size : Int))), .int .i64 (k : Int), .string s, .int .i64 (s.size : Int), .bool true, u28, u29, .string s, .int .i64 (k : Int), .int .u8 (c : Int), .bool (decide ((c : Int) < 48)), .bool (decide ((c : Int) < 48)), .string s, .int .i64 (k : Int), .int .u8 (c : Int), .bool (decide (57 < (c : Int))), .bool (decide ((c : Int) < 48) || decide (57 < (c : Int))), .slice po lo co, u41, u42, .string s, u44, u45, u46, u47, u48, u49, undef], defers := [] } W := by
          intro W acc
          rw [← hR]
          refine wpAnyIn_ready (rs := [1, 4]) (by kernel_rfl) (by simp) ?_
          refine AllReadyIn.cons rfl (fun K hK => ?_) ?_
          · go_simp
            refine hK _ _ ?_
            have h := H11010000000 (W.alloc (.cells #[.int .u32 10] 53)) (acc.alloc acc.size _) W.heap.size (num_ten W)
            rw [← hR] at h
            exact h
          refine AllReadyIn.cons rfl (fun K hK => ?_) ?_
          · go_simp
            refine hK _ _ ?_
            have h := H10011000000 W acc
            rw [← hR] at h
            exact h
          exact AllReadyIn.nil
        have H10001000000 : ∀ (W : World) (acc : Below wr.heap.size wr W), R 9 #[true, false, false, false, true, false, false, false, false, false, false] { tmps := #[.string s, undef, u2, u3, .slice po lo co, .int .i64 (k : Int), .string s, .int .i64 (s.size : Int), .bool (decide ((s.size : Int) < 1)), .bool (decide ((s.size : Int) < 1)), .string s, .int .i64 (s.size : Int), .bool (decide (200 < (s.size : Int))), .bool (decide ((s.size : Int) < 1) || decide (200 < (s.size : Int))), .bool (decide ((s.size : Int) < 1) || decide (200 < (s.size : Int))), .string s, .int .u8 (s[0].toNat : Int), .bool ((s[0].toNat : Int) == 48), .bool ((s[0].toNat : Int) == 48), undef, undef, undef, .bool false, .bool (decide ((s.size : Int) < 1) || decide (200 < (s.size : Int))), .int .i64 (k : Int), .string s, .int .i64 (s.size : Int), .bool true, u28, u29, .string s, .int .i64 (k : Int), .int .u8 (c : Int), .bool (decide ((c : Int) < 48)), .bool (decide ((c : Int) < 48)), .string s, .int .i64 (k : Int), .int .u8 (c : Int), .bool (decide (57 < (c : Int))), .bool (decide ((c : Int) < 48) || decide (57 < (c : Int))), .slice po lo co, u41, u42, u43, .int .i64 (k : Int), u45, u46, u47, u48, u49, undef], defers := [] } W := by
          intro W acc
          rw [← hR]
          refine wpAnyIn_ready (rs := [1, 3]) (by kernel_rfl) (by simp) ?_
          refine AllReadyIn.cons rfl (fun K hK => ?_) ?_
          · go_simp
            refine hK _ _ ?_
            have h := H11001000000 (W.alloc (.cells #[.int .u32 10] 53)) (acc.alloc acc.size _) W.heap.size (num_ten W)
            rw [← hR] at h
            exact h
          refine AllReadyIn.cons rfl (fun K hK => ?_) ?_
          · go_simp
            refine hK _ _ ?_
            have h := H10011000000 W acc
            rw [← hR] at h
            exact h
          exact AllReadyIn.nil
        have H10000000000 : ∀ (W : World) (acc : Below wr.heap.size wr W), R 10 #[true, false, false, false, false, false, false, false, false, false, false] { tmps := #[.string s, undef, u2, u3, .slice po lo co, .int .i64 (k : Int), .string s, .int .i64 (s.size : Int), .bool (decide ((s.size : Int) < 1)), .bool (decide ((s.size : Int) < 1)), .string s, .int .i64 (s.size : Int), .bool (decide (200 < (s.size : Int))), .bool (decide ((s.size : Int) < 1) || decide (200 < (s.size : Int))), .bool (decide ((s.size : Int) < 1) || decide (200 < (s.size : Int))), .string s, .int .u8 (s[0].toNat : Int), .bool ((s[0].toNat : Int) == 48), .bool ((s[0].toNat : Int) == 48), undef, undef, undef, .bool false, .bool (decide ((s.size : Int) < 1) || decide (200 < (s.size : Int))), .int .i64 (k : Int), .string s, .int .i64 (s.size : Int), .bool true, u28, u29, .string s, .int .i64 (k : Int), .int .u8 (c : Int), .bool (decide ((c : Int) < 48)), .bool (decide ((c : Int) < 48)), .string s, .int .i64 (k : Int), .int .u8 (c : Int), .bool (decide (57 < (c : Int))), .bool (decide ((c : Int) < 48) || decide (57 < (c : Int))), .slice po lo co, u41, u42, u43, u44, u45, u46, u47, u48, u49, undef], defers := [] } W := by
          intro W acc
          rw [← hR]
          refine wpAnyIn_ready (rs := [1, 3, 4]) (by kernel_rfl) (by simp) ?_
          refine AllReadyIn.cons rfl (fun K hK => ?_) ?_
          · go_simp
            refine hK _ _ ?_
            have h := H11000000000 (W.alloc (.cells #[.int .u32 10] 53)) (acc.alloc acc.size _) W.heap.size (num_ten W)
            rw [← hR] at h
            exact h
          refine AllReadyIn.cons rfl (fun K hK => ?_) ?_
          · go_simp
            refine hK _ _ ?_
            have h := H10010000000 W acc
            rw [← hR] at h
            exact h
          refine AllReadyIn.cons rfl (fun K hK => ?_) ?_
          · go_simp
            refine hK _ _ ?_
            have h := H10001000000 W acc
            rw [← hR] at h
            exact h
          exact AllReadyIn.nil
        have H01011111000 : ∀ (W : World) (acc : Below wr.heap.size wr W) (tb : Nat) (ht : IsNum W (.slice (some ⟨tb, 0, none⟩) 1 1) 10), R 5 #[false, true, false, true, true, true, true, true, false, false, false] { tmps := #[.string s, undef, u2, u3, .slice po lo co, .int .i64 (k : Int), .string s, .int .i64 (s.size : Int), .bool (decide ((s.size : Int) < 1)), .bool (decide ((s.size : Int) < 1)), .string s, .int .i64 (s.size : Int), .bool (decide (200 < (s.size : Int))), .bool (decide ((s.size : Int) < 1) || decide (200 < (s.size : Int))), .bool (decide ((s.size : Int) < 1) || decide (200 < (s.size : Int))), .string s, .int .u8 (s[0].toNat : Int), .bool ((s[0].toNat : Int) == 48), .bool ((s[0].toNat : Int) == 48), undef, undef, undef, .bool false, .bool (decide ((s.size : Int) < 1) || decide (200 < (s.size : Int))), .int .i64 (k : Int), .string s, .int .i64 (s.size : Int), .bool true, u28, u29, .string s, .int .i64 (k : Int), .int .u8 (c : Int), .bool (decide ((c : Int) < 48)), .bool (decide ((c : Int) < 48)), .string s, .int .i64 (k : Int), .int .u8 (c : Int), .bool (decide (57 < (c : Int))), .bool (decide ((c : Int) < 48) || decide (57 < (c : Int))), u40, .slice (some ⟨tb, 0, none⟩) 1 1, u42, .string s, .int .i64 (k : Int), .int .u8 (c : Int), .int .u8 D, .int .u64 D, u48, u49, undef], defers := [] } W := by
          intro W acc tb ht
          rw [← hR]
          refine wpAnyIn_ready (rs := [0]) (by kernel_rfl) (by simp) ?_
          refine AllReadyIn.cons rfl (fun K hK => ?_) ?_
          · go_simp
            refine hK _ _ ?_
            have h := H11011111000 W acc tb ht
            rw [← hR] at h
            exact h
          exact AllReadyIn.nil
        have H01011110000 : ∀ (W : World) (acc : Below wr.heap.size wr W) (tb : Nat) (ht : IsNum W (.slice (some ⟨tb, 0, none⟩) 1 1) 10), R 6 #[false, true, false, true, true, true, true, false, false, false, false] { tmps := #[.string s, undef, u2, u3, .slice po lo co, .int .i64 (k : Int), .string s, .int .i64 (s.size : Int), .bool (decide ((s.size : Int) < 1)), .bool (decide ((s.size : Int) < 1)), .string s, .int .i64 (s.size : Int), .bool (decide (200 < (s.size : Int))), .bool (decide ((s.size : Int) < 1) || decide (200 < (s.size : Int))), .bool (decide ((s.size : Int) < 1) || decide (200 < (s.size : Int))), .string s, .int .u8 (s[0].toNat : Int), .bool ((s[0].toNat : Int) == 48), .bool ((s[0].toNat : Int) == 48), undef, undef, undef, .bool false, .bool (decide ((s.size : Int) < 1) || decide (200 < (s.size : Int))), .int .i64 (k : Int), .string s, .int .i64 (s.size : Int), .bool true, u28, u29, .string s, .int .i64 (k : Int), .int .u8 (c : Int), .bool (decide ((c : Int) < 48)), .bool (decide ((c : Int) < 48)), .string s, .int .i64 (k : Int), .int .u8 (c : Int), .bool (decide (57 < (c : Int))), .bool (decide ((c : Int) < 48) || decide (57 < (c : Int))), u40, .slice (some ⟨tb, 0, none⟩) 1 1, u42, .string s, .int .i64 (k : Int), .int .u8 (c : Int), .int .u8 D, u47, u48, u49, undef], defers := [] } W := by
          intro W acc tb ht
          rw [← hR]
          refine wpAnyIn_ready (rs := [0, 7]) (by kernel_rfl) (by simp) ?_
          refine AllReadyIn.cons rfl (fun K hK => ?_) ?_
          · go_simp
            refine hK _ _ ?_
            have h := H11011110000 W acc tb ht
            rw [← hR] at h
            exact h
          refine AllReadyIn.cons rfl (fun K hK => ?_) ?_
          · go_simp
            refine hK _ _ ?_
            have h := H01011111000 W acc tb ht
            rw [← hR] at h
            exact h
          exact AllReadyIn.nil
        have H01011100000 : ∀ (W : World) (acc : Below wr.heap.size wr W) (tb : Nat) (ht : IsNum W (.slice (some ⟨tb, 0, none⟩) 1 1) 10), R 7 #[false, true, false, true, true, true, false, false, false, false, false] { tmps := #[.string s, undef, u2, u3, .slice po lo co, .int .i64 (k : Int), .string s, .int .i64 (s.size : Int), .bool (decide ((s.size : Int) < 1)), .bool (decide ((s.size : Int) < 1)), .string s, .int .i64 (s.size : Int), .bool (decide (200 < (s.size : Int))), .bool (decide ((s.size : Int) < 1) || decide (200 < (s.size : Int))), .bool (decide ((s.size : Int) < 1) || decide (200 < (s.size : Int))), .string s, .int .u8 (s[0].toNat : Int), .bool ((s[0].toNat : Int) == 48), .bool ((s[0].toNat : Int) == 48), undef, undef, undef, .bool false, .bool (decide ((s.size : Int) < 1) || decide (200 < (s.size : Int))), .int .i64 (k : Int), .string s, .int .i64 (s.size : Int), .bool true, u28, u29, .string s, .int .i64 (k : Int), .int .u8 (c : Int), .bool (decide ((c : Int) < 48)), .bool (decide ((c : Int) < 48)), .string s, .int .i64 (k : Int), .int .u8 (c : Int), .bool (decide (57 < (c : Int))), .bool (decide ((c : Int) < 48) || decide (57 < (c : Int))), u40, .slice (some ⟨tb, 0, none⟩) 1 1, u42, .string s, .int .i64 (k : Int), .int .u8 (c : Int), u46, u47, u48, u49, undef], defers := [] } W := by
          intro W acc tb ht
          rw [← hR]
          refine wpAnyIn_ready (rs := [0, 6]) (by kernel_rfl) (by simp) ?_
          refine AllReadyIn.cons rfl (fun K hK => ?_) ?_
          · go_simp
            refine hK _ _ ?_
            have h := H11011100000 W acc tb ht
            rw [← hR] at h
            exact h
          refine AllReadyIn.cons rfl (fun K hK => ?_) ?_
          · go_simp
            refine hK _ _ ?_
            have h := H01011110000 W acc tb ht
            rw [← hR] at h
            exact h
          exact AllReadyIn.nil
        have H01011000000 : ∀ (W : World) (acc : Below wr.heap.size wr W) (tb : Nat) (ht : IsNum W (.slice (some ⟨tb, 0, none⟩) 1 1) 10), R 8 #[false, true, false, true, true, false, false, false, false, false, false] { tmps := #[.string s, undef, u2, u3, .slice po lo co, .int .i64 (k : Int), .string s, .int .i64 (s.size : Int), .bool (decide ((s.size : Int) < 1)), .bool (decide ((s.size : Int) < 1)), .string s, .int .i64 (s.size : Int), .bool (decide (200 < (s.size : Int))), .bool (decide ((s.size : Int) < 1) || decide (200 < (s.size : Int))), .bool (decide ((s.size : Int) < 1) || decide (200 < (s.size : Int))), .string s, .int .u8 (s[0].toNat : Int), .bool ((s[0].toNat : Int) == 48), .bool ((s[0].toNat : Int) == 48), undef, undef, undef, .bool false, .bool (decide ((s.size : Int) < 1) || decide (200 < (s.size : Int))), .int .i64 (k : Int), .string s, .int .i64 (s.size : Int), .bool true, u28, u29, .string s, .int .i64 (k : Int), .int .u8 (c : Int), .bool (decide ((c : Int) < 48)), .bool (decide ((c : Int) < 48)), .string s, .int .i64 (k : Int), .int .u8 (c : Int), .bool (decide (57 < (c : Int))), .bool (decide ((c : Int) < 48) || decide (57 < (c : Int))), u40, .slice (some ⟨tb, 0, none⟩) 1 1, u42, .string s, .int .i64 (k : Int), u45, u46, u47, u48, u49, undef], defers := [] } W := by
          intro W acc tb ht
          rw [← hR]
          refine wpAnyIn_ready (rs := [0, 5]) (by kernel_rfl) (by simp) ?_
          refine AllReadyIn.cons rfl (fun K hK => ?_) ?_
          · go_simp
            refine hK _ _ ?_
            have h := H11011000000 W acc tb ht
            rw [← hR] at h
            exact h
          refine AllReadyIn.cons rfl (fun K hK => ?_) ?_
          · go_simp
            refine hK _ _ ?_
            have h := H01011100000 W acc tb ht
            rw [← hR] at h
            exact h
          exact AllReadyIn.nil
        have H01010000000 : ∀ (W : World) (acc : Below wr.heap.size wr W) (tb : Nat) (ht : IsNum W (.slice (some ⟨tb, 0, none⟩) 1 1) 10), R 9 #[false, true, false, true, false, false, false, false, false, false, false] { tmps := #[.string s, undef, u2, u3, .slice po lo co, .int .i64 (k : Int), .string s, .int .i64 (s.size : Int), .bool (decide ((s.size : Int) < 1)), .bool (decide ((s.size : Int) < 1)), .string s, .int .i64 (s.size : Int), .bool (decide (200 < (s.size : Int))), .bool (decide ((s.size : Int) < 1) || decide (200 < (s.size : Int))), .bool (decide ((s.size : Int) < 1) || decide (200 < (s.size : Int))), .string s, .int .u8 (s[0].toNat : Int), .bool ((s[0].toNat : Int) == 48), .bool ((s[0].toNat : Int) == 48), undef, undef, undef, .bool false, .bool (decide ((s.size : Int) < 1) || decide (200 < (s.size : Int))), .int .i64 (k : Int), .string s, .int .i64 (s.size : Int), .bool true, u28, u29, .string s, .int .i64 (k : Int), .int .u8 (c : Int), .bool (decide ((c : Int) < 48)), .bool (decide ((c : Int) < 48)), .string s, .int .i64 (k : Int), .int .u8 (c : Int), .bool (decide (57 < (c : Int))), .bool (decide ((c : Int) < 48) || decide (57 < (c : Int))), u40, .slice (some ⟨tb, 0, none⟩) 1 1, u42, .string s, u44, u45, u46, u47, u48, u49, undef], defers := [] } W := by
          intro W acc tb ht
          rw [← hR]
          refine wpAnyIn_ready (rs := [0, 4]) (by kernel_rfl) (by simp) ?_
          refine AllReadyIn.cons rfl (fun K hK => ?_) ?_
          · go_simp
            refine hK _ _ ?_
            have h := H11010000000 W acc tb ht
            rw [← hR] at h
            exact h
          refine AllReadyIn.cons rfl (fun K hK => ?_) ?_
          · go_simp
            refine hK _ _ ?_
            have h := H01011000000 W acc tb ht
            rw [← hR] at h
            exact h
          exact AllReadyIn.nil
        have H01001000000 : ∀ (W : World) (acc : Below wr.heap.size wr W) (tb : Nat) (ht : IsNum W (.slice (some ⟨tb, 0, none⟩) 1 1) 10), R 9 #[false, true, false, false, true, false, false, false, false, false, false] { tmps := #[.string s, undef, u2, u3, .slice po lo co, .int .i64 (k : Int), .string s, .int .i64 (s.size : Int), .bool (decide ((s.size : Int) < 1)), .bool (decide ((s.size : Int) < 1)), .string s, .int .i64 (s.size : Int), .bool (decide (200 < (s.size : Int))), .bool (decide ((s.size : Int) < 1) || decide (200 < (s.size : Int))), .bool (decide ((s.size : Int) < 1) || decide (200 < (s.size : Int))), .string s, .int .u8 (s[0].toNat : Int), .bool ((s[0].toNat : Int) == 48), .bool ((s[0].toNat : Int) == 48), undef, undef, undef, .bool false, .bool (decide ((s.size : Int) < 1) || decide (200 < (s.size : Int))), .int .i64 (k : Int), .string s, .int .i64 (s.size : Int), .bool true, u28, u29, .string s, .int .i64 (k : Int), .int .u8 (c : Int), .bool (decide ((c : Int) < 48)), .bool (decide ((c : Int) < 48)), .string s, .int .i64 (k : Int), .int .u8 (c : Int), .bool (decide (57 < (c : Int))), .bool (decide ((c : Int) < 48) || decide (57 < (c : Int))), u40, .slice (some ⟨tb, 0, none⟩) 1 1, u42, u43, .int .i64 (k : Int), u45, u46, u47, u48, u49, undef], defers := [] } W := by
          intro W acc tb ht
          rw [← hR]
          refine wpAnyIn_ready (rs := [0, 3]) (by kernel_rfl) (by simp) ?_
          refine AllReadyIn.cons rfl (fun K hK => ?_) ?_
          · go_simp
            refine hK _ _ ?_
            have h := H11001000000 W acc tb ht
            rw [← hR] at h
            exact h
          refine AllReadyIn.cons rfl (fun K hK => ?_) ?_
          · go_simp
            refine hK _ _ ?_
            have h := H01011000000 W acc tb ht
            rw [← hR] at h
            exact h
          exact AllReadyIn.nil
        have H01000000000 : ∀ (W : World) (acc : Below wr.heap.size wr W) (tb : Nat) (ht : IsNum W (.slice (some ⟨tb, 0, none⟩) 1 1) 10), R 10 #[false, true, false, false, false, false, false, false, false, false, false] { tmps := #[.string s, undef, u2, u3, .slice po lo co, .int .i64 (k : Int), .string s, .int .i64 (s.size : Int), .bool (decide ((s.size : Int) < 1)), .bool (decide ((s.size : Int) < 1)), .string s, .int .i64 (s.size : Int), .bool (decide (200 < (s.size : Int))), .bool (decide ((s.size : Int) < 1) || decide (200 < (s.size : Int))), .bool (decide ((s.size : Int) < 1) || decide (200 < (s.size : Int))), .string s, .int .u8 (s[0].toNat : Int), .bool ((s[0].toNat : Int) == 48), .bool ((s[0].toNat : Int) == 48), undef, undef, undef, .bool false, .bool (decide ((s.size : Int) < 1) || decide (200 < (s.size : Int))), .int .i64 (k : Int), .string s, .int .i64 (s.size : Int), .bool true, u28, u29, .string s, .int .i64 (k : Int), .int .u8 (c : Int), .bool (decide ((c : Int) < 48)), .bool (decide ((c : Int) < 48)), .string s, .int .i64 (k : Int), .int .u8 (c : Int), .bool (decide (57 < (c : Int))), .bool (decide ((c : Int) < 48) || decide (57 < (c : Int))), u40, .slice (some ⟨tb, 0, none⟩) 1 1, u42, u43, u44, u45, u46, u47, u48, u49, undef], defers := [] } W := by
          intro W acc tb ht
          rw [← hR]
          refine wpAnyIn_ready (rs := [0, 3, 4]) (by kernel_rfl) (by simp) ?_
          refine AllReadyIn.cons rfl (fun K hK => ?_) ?_
          · go_simp
            refine hK _ _ ?_
            have h := H11000000000 W acc tb ht
            rw [← hR] at h
            exact h
          refine AllReadyIn.cons rfl (fun K hK => ?_) ?_
          · go_simp
            refine hK _ _ ?_
            have h := H01010000000 W acc tb ht
            rw [← hR] at h
            exact h
          refine AllReadyIn.cons rfl (fun K hK => ?_) ?_
          · go_simp
            refine hK _ _ ?_
            have h := H01001000000 W acc tb ht
            rw [← hR] at h
            exact h
          exact AllReadyIn.nil
        have H00011111000 : ∀ (W : World) (acc : Below wr.heap.size wr W), R 6 #[false, false, false, true, true, true, true, true, false, false, false] { tmps := #[.string s, undef, u2, u3, .slice po lo co, .int .i64 (k : Int), .string s, .int .i64 (s.size : Int), .bool (decide ((s.size : Int) < 1)), .bool (decide ((s.size : Int) < 1)), .string s, .int .i64 (s.size : Int), .bool (decide (200 < (s.size : Int))), .bool (decide ((s.size : Int) < 1) || decide (200 < (s.size : Int))), .bool (decide ((s.size : Int) < 1) || decide (200 < (s.size : Int))), .string s, .int .u8 (s[0].toNat : Int), .bool ((s[0].toNat : Int) == 48), .bool ((s[0].toNat : Int) == 48), undef, undef, undef, .bool false, .bool (decide ((s.size : Int) < 1) || decide (200 < (s.size : Int))), .int .i64 (k : Int), .string s, .int .i64 (s.size : Int), .bool true, u28, u29, .string s, .int .i64 (k : Int), .int .u8 (c : Int), .bool (decide ((c : Int) < 48)), .bool (decide ((c : Int) < 48)), .string s, .int .i64 (k : Int), .int .u8 (c : Int), .bool (decide (57 < (c : Int))), .bool (decide ((c : Int) < 48) || decide (57 < (c : Int))), u40, u41, u42, .string s, .int .i64 (k : Int), .int .u8 (c : Int), .int .u8 D, .int .u64 D, u48, u49, undef], defers := [] } W := by
          intro W acc
          rw [← hR]
          refine wpAnyIn_ready (rs := [0, 1]) (by kernel_rfl) (by simp) ?_
          refine AllReadyIn.cons rfl (fun K hK => ?_) ?_
          · go_simp
            refine hK _ _ ?_
            have h := H10011111000 W acc
            rw [← hR] at h
            exact h
          refine AllReadyIn.cons rfl (fun K hK => ?_) ?_
          · go_simp
            refine hK _ _ ?_
            have h := H01011111000 (W.alloc (.cells #[.int .u32 10] 53)) (acc.alloc acc.size _) W.heap.size (num_ten W)
            rw [← hR] at h
            exact h
          exact AllReadyIn.nil
        have H00011110000 : ∀ (W : World) (acc : Below wr.heap.size wr W), R 7 #[false, false, false, true, true, true, true, false, false, false, false] { tmps := #[.string s, undef, u2, u3, .slice po lo co, .int .i64 (k : Int), .string s, .int .i64 (s.size : Int), .bool (decide ((s.size : Int) < 1)), .bool (decide ((s.size : Int) < 1)), .string s, .int .i64 (s.size : Int), .bool (decide (200 < (s.size : Int))), .bool (decide ((s.size : Int) < 1) || decide (200 < (s.size : Int))), .bool (decide ((s.size : Int) < 1) || decide (200 < (s.size : Int))), .string s, .int .u8 (s[0].toNat : Int), .bool ((s[0].toNat : Int) == 48), .bool ((s[0].toNat : Int) == 48), undef, undef, undef, .bool false, .bool (decide ((s.size : Int) < 1) || decide (200 < (s.size : Int))), .int .i64 (k : Int), .string s, .int .i64 (s.size : Int), .bool true, u28, u29, .string s, .int .i64 (k : Int), .int .u8 (c : Int), .bool (decide ((c : Int) < 48)), .bool (decide ((c : Int) < 48)), .string s, .int .i64 (k : Int), .int .u8 (c : Int), .bool (decide (57 < (c : Int))), .bool (decide ((c : Int) < 48) || decide (57 < (c : Int))), u40, u41, u42, .string s, .int .i64 (k : Int), .int .u8 (c : Int), .int .u8 D, u47, u48, u49, undef], defers := [] } W := by
          intro W acc
          rw [← hR]
          refine wpAnyIn_ready (rs := [0, 1, 7]) (by kernel_rfl) (by simp) ?_
          refine AllReadyIn.cons rfl (fun K hK => ?_) ?_
          · go_simp
            refine hK _ _ ?_
            have h := H10011110000 W acc
            rw [← hR] at h
            exact h
          refine AllReadyIn.cons rfl (fun K hK => ?_) ?_
          · go_simp
            refine hK _ _ ?_
            have h := H01011110000 (W.alloc (.cells #[.int .u32 10] 53)) (acc.alloc acc.size _) W.heap.size (num_ten W)
            rw [← hR] at h
            exact h
          refine AllReadyIn.cons rfl (fun K hK => ?_) ?_
          · go_simp
            refine hK _ _ ?_
            have h := H00011111000 W acc
            rw [← hR] at h
            exact h
          exact AllReadyIn.nil
        have H00011100000 : ∀ (W : World) (acc : Below wr.heap.size wr W), R 8 #[false, false, false, true, true, true, false, false, false, false, false] { tmps := #[.string s, undef, u2, u3, .slice po lo co, .int .i64 (k : Int), .string s, .int .i64 (s.size : Int), .bool (decide ((s.size : Int) < 1)), .bool (decide ((s.size : Int) < 1)), .string s, .int .i64 (s.size : Int), .bool (decide (200 < (s.size : Int))), .bool (decide ((s.size : Int) < 1) || decide (200 < (s.size : Int))), .bool (decide ((s.size : Int) < 1) || decide (200 < (s.size : Int))), .string s, .int .u8 (s[0].toNat : Int), .bool ((s[0].toNat : Int) == 48), .bool ((s[0].toNat : Int) == 48), undef, undef, undef, .bool false, .bool (decide ((s.size : Int) < 1) || decide (200 < (s.size : Int))), .int .i64 (k : Int), .string s, .int .i64 (s.size : Int), .bool true, u28, u29, .string s, .int .i64 (k : Int), .int .u8 (c : Int), .bool (decide ((c : Int) < 48)), .bool (decide ((c : Int) < 48)), .string s, .int .i64 (k : Int), .int .u8 (c : Int), .bool (decide (57 < (c : Int))), .bool (decide ((c : Int) < 48) || decide (57 < (c : Int))), u40, u41, u42, .string s, .int .i64 (k : Int), .int .u8 (c : Int), u46, u47, u48, u49, undef], defers := [] } W := by
          intro W acc
          rw [← hR]
          refine wpAnyIn_ready (rs := [0, 1, 6]) (by kernel_rfl) (by simp) ?_
          refine AllReadyIn.cons rfl (fun K hK => ?_) ?_
          · go_simp
            refine hK _ _ ?_
            have h := H10011100000 W acc
            rw [← hR] at h
            exact h
          refine AllReadyIn.cons rfl (fun K hK => ?_) ?_
          · go_simp
            refine hK _ _ ?_
            have h := H01011100000 (W.alloc (.cells #[.int .u32 10] 53)) (acc.alloc acc.size _) W.heap.size (num_ten W)
            rw [← hR] at h
            exact h
          refine AllReadyIn.cons rfl (fun K hK => ?_) ?_
          · go_simp
            refine hK _ _ ?_
            have h := H00011110000 W acc
            rw [← hR] at h
            exact h
          exact AllReadyIn.nil
        have H00011000000 : ∀ (W : World) (acc : Below wr.heap.size wr W), R 9 #[false, false, false, true, true, false, false, false, false, false, false] { tmps := #[.string s, undef, u2, u3, .slice po lo co, .int .i64 (k : Int), .string s, .int .i64 (s.size : Int), .bool (decide ((s.size : Int) < 1)), .bool (decide ((s.size : Int) < 1)), .string s, .int .i64 (s.size : Int), .bool (decide (200 < (s.size : Int))), .bool (decide ((s.size : Int) < 1) || decide (200 < (s.size : Int))), .bool (decide ((s.size : Int) < 1) || decide (200 < (s.size : Int))), .string s, .int .u8 (s[0].toNat : Int), .bool ((s[0].toNat : Int) == 48), .bool ((s[0].toNat : Int) == 48), undef, undef, undef, .bool false, .bool (decide ((s.size : Int) < 1) || decide (200 < (s.size : Int))), .int .i64 (k : Int), .string s, .int .i64 (s.size : Int), .bool true, u28, u29, .string s, .int .i64 (k : Int), .int .u8 (c : Int), .bool (decide ((c : Int) < 48)), .bool (decide ((c : Int) < 48)), .string s, .int .i64 (k : Int), .int .u8 (c : Int), .bool (decide (57 < (c : Int))), .bool (decide ((c : Int) < 48) || decide (57 < (c : Int))), u40, u41, u42, .string s, .int .i64 (k : Int), u45, u46, u47, u48, u49, undef], defers := [] } W := by
          intro W acc
          rw [← hR]
          refine wpAnyIn_ready (rs := [0, 1, 5]) (by kernel_rfl) (by simp) ?_
          refine AllReadyIn.cons rfl (fun K hK => ?_) ?_
          · go_simp
            refine hK _ _ ?_
            have h := H10011000000 W acc
            rw [← hR] at h
            exact h
          refine AllReadyIn.cons rfl (fun K hK => ?_) ?_
          · go_simp
            refine hK _ _ ?_
            have h := H01011000000 (W.alloc (.cells #[.int .u32 10] 53)) (acc.alloc acc.size _) W.heap.size (num_ten W)
            rw [← hR] at h
            exact h
          refine AllReadyIn.cons rfl (fun K hK => ?_) ?_
          · go_simp
            refine hK _ _ ?_
            have h := H00011100000 W acc
            rw [← hR] at h
            exact h
          exact AllReadyIn.nil
        have H00010000000 : ∀ (W : World) (acc : Below wr.heap.size wr W), R 10 #[false, false, false, true, false, false, false, false, false, false, false] { tmps := #[.string s, undef, u2, u3, .slice po lo co, .int .i64 (k : Int), .string s, .int .i64 (s.size : Int), .bool (decide ((s.size : Int) < 1)), .bool (decide ((s.size : Int) < 1)), .string s, .int .i64 (s.size : Int), .bool (decide (200 < (s.size : Int))), .bool (decide ((s.size : Int) < 1) || decide (200 < (s.size : Int))), .bool (decide ((s.size : Int) < 1) || decide (200 < (s.size : Int))), .string s, .int .u8 (s[0].toNat : Int), .bool ((s[0].toNat : Int) == 48), .bool ((s[0].toNat : Int) == 48), undef, undef, undef, .bool false, .bool (decide ((s.size : Int) < 1) || decide (200 < (s.size : Int))), .int .i64 (k : Int), .string s, .int .i64 (s.size : Int), .bool true, u28, u29, .string s, .int .i64 (k : Int), .int .u8 (c : Int), .bool (decide ((c : Int) < 48)), .bool (decide ((c : Int) < 48)), .string s, .int .i64 (k : Int), .int .u8 (c : Int), .bool (decide (57 < (c : Int))), .bool (decide ((c : Int) < 48) || decide (57 < (c : Int))), u40, u41, u42, .string s, u44, u45, u46, u47, u48, u49, undef], defers := [] } W := by
          intro W acc
          rw [← hR]
          refine wpAnyIn_ready (rs := [0, 1, 4]) (by kernel_rfl) (by simp) ?_
          refine AllReadyIn.cons rfl (fun K hK => ?_) ?_
          · go_simp
            refine hK _ _ ?_
            have h := H10010000000 W acc
            rw [← hR] at h
            exact h
          refine AllReadyIn.cons rfl (fun K hK => ?_) ?_
          · go_simp
            refine hK _ _ ?_
            have h := H01010000000 (W.alloc (.cells #[.int .u32 10] 53)) (acc.alloc acc.size _) W.heap.size (num_ten W)
            rw [← hR] at h
            exact h
          refine AllReadyIn.cons rfl (fun K hK => ?_) ?_
          · go_simp
            refine hK _ _ ?_
            have h := H00011000000 W acc
            rw [← hR] at h
            exact h
          exact AllReadyIn.nil
        have H00001000000 : ∀ (W : World) (acc : Below wr.heap.size wr W), R 10 #[false, false, false, false, true, false, false, false, false, false, false] { tmps := #[.string s, undef, u2, u3, .slice po lo co, .int .i64 (k : Int), .string s, .int .i64 (s.size : Int), .bool (decide ((s.size : Int) < 1)), .bool (decide ((s.size : Int) < 1)), .string s, .int .i64 (s.size : Int), .bool (decide (200 < (s.size : Int))), .bool (decide ((s.size : Int) < 1) || decide (200 < (s.size : Int))), .bool (decide ((s.size : Int) < 1) || decide (200 < (s.size : Int))), .string s, .int .u8 (s[0].toNat : Int), .bool ((s[0].toNat : Int) == 48), .bool ((s[0].toNat : Int) == 48), undef, undef, undef, .bool false, .bool (decide ((s.size : Int) < 1) || decide (200 < (s.size : Int))), .int .i64 (k : Int), .string s, .int .i64 (s.size : Int), .bool true, u28, u29, .string s, .int .i64 (k : Int), .int .u8 (c : Int), .bool (decide ((c : Int) < 48)), .bool (decide ((c : Int) < 48)), .string s, .int .i64 (k : Int), .int .u8 (c : Int), .bool (decide (57 < (c : Int))), .bool (decide ((c : Int) < 48) || decide (57 < (c : Int))), u40, u41, u42, u43, .int .i64 (k : Int), u45, u46, u47, u48, u49, undef], defers := [] } W := by
          intro W acc
          rw [← hR]
          refine wpAnyIn_ready (rs := [0, 1, 3]) (by kernel_rfl) (by simp) ?_
          refine AllReadyIn.cons rfl (fun K hK => ?_) ?_
          · go_simp
            refine hK _ _ ?_
            have h := H10001000000 W acc
            rw [← hR] at h
            exact h
          refine AllReadyIn.cons rfl (fun K hK => ?_) ?_
          · go_simp
            refine hK _ _ ?_
            have h := H01001000000 (W.alloc (.cells #[.int .u32 10] 53)) (acc.alloc acc.size _) W.heap.size (num_ten W)
            rw [← hR] at h
            exact h
          refine AllReadyIn.cons rfl (fun K hK => ?_) ?_
          · go_simp
            refine hK _ _ ?_
            have h := H00011000000 W acc
            rw [← hR] at h
            exact h
          exact AllReadyIn.nil
        have H00000000000 : ∀ (W : World) (acc : Below wr.heap.size wr W), R 11 #[false, false, false, false, false, false, false, false, false, false, false] { tmps := #[.string s, undef, u2, u3, .slice po lo co, .int .i64 (k : Int), .string s, .int .i64 (s.size : Int), .bool (decide ((s.size : Int) < 1)), .bool (decide ((s.size : Int) < 1)), .string s, .int .i64 (s.size : Int), .bool (decide (200 < (s.size : Int))), .bool (decide ((s.size : Int) < 1) || decide (200 < (s.size : Int))), .bool (decide ((s.size : Int) < 1) || decide (200 < (s.size : Int))), .string s, .int .u8 (s[0].toNat : Int), .bool ((s[0].toNat : Int) == 48), .bool ((s[0].toNat : Int) == 48), undef, undef, undef, .bool false, .bool (decide ((s.size : Int) < 1) || decide (200 < (s.size : Int))), .int .i64 (k : Int), .string s, .int .i64 (s.size : Int), .bool true, u28, u29, .string s, .int .i64 (k : Int), .int .u8 (c : Int), .bool (decide ((c : Int) < 48)), .bool (decide ((c : Int) < 48)), .string s, .int .i64 (k : Int), .int .u8 (c : Int), .bool (decide (57 < (c : Int))), .bool (decide ((c : Int) < 48) || decide (57 < (c : Int))), u40, u41, u42, u43, u44, u45, u46, u47, u48, u49, undef], defers := [] } W := by
          intro W acc
          rw [← hR]
          refine wpAnyIn_ready (rs := [0, 1, 3, 4]) (by kernel_rfl) (by simp) ?_
          refine AllReadyIn.cons rfl (fun K hK => ?_) ?_
          · go_simp
            refine hK _ _ ?_
            have h := H10000000000 W acc
            rw [← hR] at h
            exact h
          refine AllReadyIn.cons rfl (fun K hK => ?_) ?_
          · go_simp
            refine hK _ _ ?_
            have h := H01000000000 (W.alloc (.cells #[.int .u32 10] 53)) (acc.alloc acc.size _) W.heap.size (num_ten W)
            rw [← hR] at h
            exact h
          refine AllReadyIn.cons rfl (fun K hK => ?_) ?_
          · go_simp
            refine hK _ _ ?_
            have h := H00010000000 W acc
            rw [← hR] at h
            exact h
          refine AllReadyIn.cons rfl (fun K hK => ?_) ?_
          · go_simp
            refine hK _ _ ?_
            have h := H00001000000 W acc
            rw [← hR] at h
            exact h
          exact AllReadyIn.nil
        exact H00000000000 wr.drew (Below.refl _ wr).drew
      · obtain rfl : k = s.size := by omega
        go_wp2_with fail
        go_ret2
        refine .inl ⟨⟨by omega, by omega, Hd.out, ?_⟩, _, rfl, ho, hB⟩
        have := H3.out
        rw [dg_eq h0]
        omega
end Go.Proofs.YtjoppmkknbpjbaaGreatDoor
