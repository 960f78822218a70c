/- FormatUint in tens, of any word; appendDigits of no powers. The text of a word is its text. Digits without the noughts ahead are the text of what they tell. -/
import Derived.Test.YtjoppmkknbpjbaaDoorParse
import Derived.Lib.AppendIntMem
import Derived.Shelf.Strconv.Itoa2
import Derived.Test.YtjoppmkknbpjbaaDoorRefText
namespace Go.Proofs.YtjoppmkknbpjbaaDoor
open Go.RowKit Go.Sort
set_option linter.unusedVariables false

/-- The table of powers lies where the program's text lays it. -/
def Tab (w : World) : Prop := Lib.TabIs Tryd.prog w "internal/strconv.uint64pow10" .u64 Lib.pow10Tab
theorem Tab.below {w w' : World} (h : Tab w) (hb : Below w.heap.size w w') : Tab w' := by
  unfold Tab Lib.TabIs World.var? at *
  cases e : Tryd.prog.globalNamed "internal/strconv.uint64pow10" with
  | none => rw [e] at h; cases h
  | some g =>
    simp only [e, Option.bind_some] at h ⊢
    by_cases hg : g < w.heap.size
    · rwa [hb.block g hg]
    · rw [Array.getElem?_eq_none (by omega)] at h
      cases h
set_option maxRecDepth 100000 in
set_option maxHeartbeats 4000000 in
theorem iformat_any (u : Nat) (hu64 : u < 18446744073709551616) (w : World) (htab : Tab w) :
    Calls Tryd.prog 51 #[.int .u64 u, .int .i64 10] w fun e w' => e = .returned (.string ⟨(Lib.decDigits u).toArray⟩) ∧ Below w.heap.size w w' := by
  by_cases hs : u < 100
  · refine (iformat_small u hs w).mono ?_
    rintro e w' ⟨rfl, rfl⟩
    exact ⟨rfl, Below.refl _ _⟩
  have hu1 : 1 ≤ u := by omega
  have hnd20 : Lib.nDigits u ≤ 20 := by have := Lib.numDigits_eq u hu1 hu64; split at this <;> omega
  have hal : Tryd.prog.arrayLen 94 = 24 := by kernel_rfl
  have hb4 : Lib.nDigits u ≤ 24 := by omega
  have hsl : ∀ W, (Instr.sliceAt 94 (.pointer (some ⟨w.heap.size, 0, none⟩)) none (some (.int .i64 (Lib.nDigits u : Int))) none).run Tryd.prog W = .ok (.slice (some ⟨w.heap.size, 0, none⟩) (Lib.nDigits u) 24) W := fun W => by
    rw [run_sliceAt_array_h W 94 ⟨w.heap.size, 0, none⟩ (by kernel_rfl) .i64 (Lib.nDigits u : Int) (by omega) (by rw [hal]; omega)]
    go_simp
  have hH0 := Lib.holds_zero0 w 94 (Lib.nDigits u) hb4
  have hfmt := Tryd.internal_strconv_formatBase10 w.heap.size 0 24 u (Array.replicate (Lib.nDigits u) 0) (w.alloc (.cells Lib.zeros24 94)) hH0 (by rw [Array.size_replicate]; exact Lib.lt_pow_nDigits u) hu64 (by rw [Array.size_replicate]; omega)
  rw [Array.size_replicate] at hfmt
  have HH0 := Lib.hid hH0
  clear hH0
  go_enter Tryd.func51, Tryd.ntmps51
  go_wp2_with (go_at_call 65; refine (Tryd.internal_strconv_numDigits u hu1 hu64 _ (Lib.tabIs_alloc htab _)).mono ?_; rintro e w' ⟨rfl, rfl⟩)
  go_at_call 66
  refine hfmt.mono ?_
  rintro e w' ⟨rfl, k, v', dk, rfl, hF⟩
  have hcv : (convert 40 9 (.slice (some ⟨w.heap.size, 0, none⟩) (Lib.nDigits u) 24)).run Tryd.prog ((putRow (fun (b : UInt8) => Value.int .u8 (b.toNat : Int)) (w.alloc (.cells Lib.zeros24 94)) w.heap.size 0 dk).drewN k) = .ok (.string ⟨(Lib.decDigits u).toArray⟩) ((putRow (fun (b : UInt8) => Value.int .u8 (b.toNat : Int)) (w.alloc (.cells Lib.zeros24 94)) w.heap.size 0 dk).drewN k) := by
    have h := run_convert_bytes_back (P := Tryd.prog) ((putRow (fun (b : UInt8) => Value.int .u8 (b.toNat : Int)) (w.alloc (.cells Lib.zeros24 94)) w.heap.size 0 dk).drewN k) 40 9 5 ⟨w.heap.size, 0, none⟩ 24 (Lib.decDigits u) (by kernel_rfl) (by kernel_rfl) (by kernel_rfl) (fun j hj => by
      rw [Lib.row_is_numeral hF j hj, Lib.add_plain, World.cell?_drewN]
      exact cell?_putRow (fun (b : UInt8) => Value.int .u8 (b.toNat : Int)) _ w.heap.size 0 _ dk HH0.out (by rw [hF.size, Array.size_replicate]) j (by rw [hF.size]; rw [Lib.decDigits_length] at hj; exact hj))
    rw [Lib.decDigits_length] at h
    exact h
  go_wp2
  go_ret
  refine ⟨rfl, ?_⟩
  obtain ⟨os, eo⟩ := Lib.fin_at w (.cells Lib.zeros24 94) dk k 0
  rw [eo]
  have hd := below_drewN (Below.refl w.heap.size w) k
  refine ⟨hd.os, hd.tape, hd.output, ?_, fun g hg => Lib.heap_grow_old w k os g hg⟩
  show w.heap.size ≤ (w.heap ++ os).size
  rw [Array.size_append]
  omega
theorem format_any (u : Nat) (hu64 : u < 18446744073709551616) (w : World) (htab : Tab w) :
    Calls Tryd.prog 31 #[.int .u64 u, .int .i64 10] w fun e w' => e = .returned (.string ⟨(Lib.decDigits u).toArray⟩) ∧ Below w.heap.size w w' := by
  go_enter Tryd.func31, Tryd.ntmps31
  go_wp2_with fail
  refine (iformat_any u hu64 _ htab).mono ?_
  rintro e w' ⟨rfl, hb⟩
  go_wp2_with fail
  go_ret
  exact ⟨rfl, hb⟩
theorem text_word (u : Nat) (hu64 : u < 18446744073709551616) (w : World) (htab : Tab w) :
    Calls Tryd.prog 13 #[.agg #[.int .u64 u, .slice none 0 0]] w fun e w' => e = .returned (.string ⟨(Lib.decDigits u).toArray⟩) ∧ Below w.heap.size w w' := by
  have e1 := eqnil
  go_enter Tryd.func13, Tryd.ntmps13
  have hB : Below w.heap.size w (w.alloc (.cells #[.int .u64 u, .slice none 0 0] 25)) := by go_grown
  go_wp2_with fail
  refine (format_any u hu64 _ (htab.below hB)).mono ?_
  rintro e w' ⟨rfl, hb⟩
  go_wp2_with fail
  go_ret
  exact ⟨rfl, hB.trans (hb.mono hB.size)⟩
end Go.Proofs.YtjoppmkknbpjbaaDoor

namespace Go.Proofs.YtjoppmkknbpjbaaDoor
open Go.RowKit
set_option linter.unusedVariables false

theorem ba_snoc (l : List UInt8) (c : UInt8) : (⟨l.toArray⟩ : ByteArray) ++ (⟨#[c]⟩ : ByteArray) = ⟨(l ++ [c]).toArray⟩ := by
  apply ByteArray.ext
  simp
theorem digit_of (x : Nat) (hx : x < 10) : ((UInt8.ofNat (48 + x)).toNat : Int) - 48 = x := by
  rw [UInt8.toNat_ofNat']
  omega
theorem dg_one (c : UInt8) : dg ⟨#[c]⟩ 0 = (c.toNat : Int) - 48 := dg_eq (s := ⟨#[c]⟩) (k := 0) (show 0 < 1 by decide)
theorem digs_one (x : Nat) (hx : x < 10) : Digs ⟨#[UInt8.ofNat (48 + x)]⟩ := by
  intro j hj
  have hj1 : j < 1 := hj
  obtain rfl : j = 0 := by omega
  rw [dg_one, digit_of x hx]
  unfold Dig
  omega
theorem isText_dec (u : Nat) : IsText ⟨(Lib.decDigits u).toArray⟩ u := by
  induction u using Nat.strongRecOn with
  | _ u ih =>
    by_cases h : u < 10
    · rw [Lib.decDigits_one h]
      refine ⟨by show 1 ≤ 1; decide, digs_one u h, .inl rfl, ?_⟩
      show 0 * 10 + dg ⟨#[UInt8.ofNat (48 + u)]⟩ 0 = u
      rw [dg_one, digit_of u h]
      omega
    · obtain ⟨h1, h2, h3, h4⟩ := ih (u / 10) (by omega)
      rw [Lib.decDigits, dif_neg h, ← ba_snoc]
      generalize (⟨(Lib.decDigits (u / 10)).toArray⟩ : ByteArray) = s at h1 h2 h3 h4
      have e := decTo_app s ⟨#[UInt8.ofNat (48 + u % 10)]⟩ 1
      have e1 : decTo ⟨#[UInt8.ofNat (48 + u % 10)]⟩ 1 = (u % 10 : Nat) := by
        show 0 * 10 + dg ⟨#[UInt8.ofNat (48 + u % 10)]⟩ 0 = _
        rw [dg_one, digit_of _ (by omega)]
        omega
      rw [e1, h4] at e
      refine ⟨by rw [ByteArray.size_append]; omega, h2.app (digs_one _ (by omega)), .inr ?_, ?_⟩
      · rw [dg_left (by omega)]
        rcases h3 with h3 | h3
        · rw [h3] at h4
          have : decTo s 1 = 0 * 10 + dg s 0 := rfl
          omega
        · exact h3
      · rw [ByteArray.size_append]
        show decTo _ (s.size + 1) = _
        rw [e]
        have : (10 : Int) ^ 1 = 10 := rfl
        rw [this]
        omega
theorem text_of_word (u : Nat) (hu64 : u < 18446744073709551616) (w : World) (htab : Tab w) : Calls Tryd.prog 13 #[.agg #[.int .u64 u, .slice none 0 0]] w (RetText u w) := by
  refine (text_word u hu64 w htab).mono ?_
  rintro e w' ⟨rfl, hb⟩
  exact ⟨_, rfl, isText_dec u, hb⟩
end Go.Proofs.YtjoppmkknbpjbaaDoor

namespace Go.Proofs.YtjoppmkknbpjbaaDoor
open Go.RowKit
set_option linter.unusedVariables false

theorem ba_cons (c : UInt8) (l : List UInt8) : (⟨#[c]⟩ : ByteArray) ++ (⟨l.toArray⟩ : ByteArray) = ⟨(c :: l).toArray⟩ := by
  apply ByteArray.ext
  simp
theorem trim_text : ∀ (l : List UInt8) (X : Int), Digs ⟨l.toArray⟩ → decTo ⟨l.toArray⟩ l.length = X → 0 < X → IsText ⟨(Lib.trimLeftB l 48).toArray⟩ X
  | [], X, _, hv, hX => by
    have : decTo ⟨([] : List UInt8).toArray⟩ 0 = 0 := rfl
    simp only [List.length_nil] at hv
    omega
  | a :: r, X, hd, hv, hX => by
    have hs : (⟨(a :: r).toArray⟩ : ByteArray).size = r.length + 1 := by simp [ByteArray.size]
    have d0 := hd 0 (by rw [hs]; omega)
    have g0 : dg ⟨(a :: r).toArray⟩ 0 = (a.toNat : Int) - 48 := by
      rw [← ba_cons, dg_left (show 0 < 1 by decide), dg_one]
    by_cases h : a = 48
    · subst h
      have e := decTo_app ⟨#[48]⟩ ⟨r.toArray⟩ r.length
      rw [ba_cons] at e
      have e1 : decTo ⟨#[(48 : UInt8)]⟩ 1 = 0 := by decide
      have e2 : decTo ⟨((48 : UInt8) :: r).toArray⟩ (1 + r.length) = 0 * 10 ^ r.length + decTo ⟨r.toArray⟩ r.length := by rw [← e1]; exact e
      rw [Int.zero_mul, Int.zero_add, Nat.add_comm] at e2
      rw [List.length_cons, e2] at hv
      have dr : Digs ⟨r.toArray⟩ := by
        intro j hj
        have h1 := hd (1 + j) (by rw [hs]; have : (⟨r.toArray⟩ : ByteArray).size = r.length := by simp [ByteArray.size]
                                  omega)
        rw [← ba_cons] at h1
        have h2 : dg ((⟨#[(48 : UInt8)]⟩ : ByteArray) ++ ⟨r.toArray⟩) (1 + j) = dg ⟨r.toArray⟩ j := dg_right (a := ⟨#[48]⟩) j
        rwa [h2] at h1
      have ih := trim_text r X dr hv hX
      have et : Lib.trimLeftB (48 :: r) 48 = Lib.trimLeftB r 48 := by simp [Lib.trimLeftB]
      rw [et]
      exact ih
    · have et : Lib.trimLeftB (a :: r) 48 = a :: r := by simp [Lib.trimLeftB, h]
      rw [et]
      refine ⟨by rw [hs]; omega, hd, .inr ?_, by rw [hs]; simpa using hv⟩
      rw [g0]
      intro e
      exact h (UInt8.toNat_inj.1 (by
        have : (48 : UInt8).toNat = 48 := rfl
        omega))
end Go.Proofs.YtjoppmkknbpjbaaDoor
