/- OctetKnown, walked. -/
import Derived.Test.YtkggglhnhlclmaaDoorOctRead
import Derived.Test.YtkggglhnhlclmaaDoorOctApp
import Derived.Test.YtkggglhnhlclmaaDoorOctH
namespace Go.Proofs.YtkggglhnhlclmaaDoor
open Go.RowKit
set_option linter.unusedVariables false

/-- The sealed text "abc". -/
def kAbc : List Int := [97, 98, 99]
def kSeal : List Int := sealed 7 kAbc
theorem kSeal_len : kSeal.length = 13 := by decide +kernel
theorem kSeal_octs : Octs kSeal := by
  intro x hx
  have : ∀ x ∈ kSeal, 0 ≤ x ∧ x < 256 := by decide +kernel
  exact this x hx
theorem octs_dec {l : List Int} (h : (l.all fun x => decide (0 ≤ x ∧ x < 256)) = true) : Octs l := by
  intro x hx
  have := List.all_eq_true.1 h x hx
  exact of_decide_eq_true this
theorem Bs.openedK {w : World} {v : Value} {l : List Int} {len : Nat} (h : Bs w v l) (hl : l.length = len + 1) : ∃ g off c, v = .slice (some ⟨g, off, none⟩) (len + 1) (c + 1) := by
  obtain ⟨p, c, rfl, h1, h2, h3, h4⟩ := h
  obtain ⟨g, off, rfl, _⟩ := h4 (by omega)
  exact ⟨g, off, c - 1, by rw [hl, show c - 1 + 1 = c by omega]⟩
theorem lit_bs (w : World) (L : List Int) (ho : Octs L) (hl : L.length ≤ 1000) : Bs (w.alloc (.cells (L.map (Value.int .u8)).toArray 5)) (.slice (some ⟨w.heap.size, 0, none⟩) L.length L.length) L := by
  have := Bs.arr (n := L.length) (c := L.length) (Arr.new w 5 .u8 L _ rfl) (Nat.le_refl _) (Nat.le_refl _) (by omega) (by rw [List.take_length]; exact ho)
  rwa [List.take_length] at this
set_option maxRecDepth 100000 in
theorem sign_zero (w : World) : Calls Tryd.prog 10 #[.agg #[.bool false, .int .u64 0, .slice none 0 0]] w fun e w' => e = .returned (.int .i64 0) ∧ Below w.heap.size w w' := by
  go_enter Tryd.func10, Tryd.ntmps10
  go_wp2_with fail
  refine (bits_word 0 ⟨by decide, by decide⟩ _).mono ?_
  rintro e w1 ⟨rfl, b1⟩
  have ba : Below w.heap.size w (w.alloc (.cells #[.bool false, .int .u64 0, .slice none 0 0] 35)) := by go_grown
  have e0 : Lib.bitLen (0 : Int).toNat = 0 := Lib.bitLenAux_zero 64
  rw [e0]
  go_wp2_with fail
  go_ret
  exact ⟨rfl, ba.trans (b1.mono ba.size)⟩
theorem next_k (v : Value) (w : World) (h : Bs w v (kSeal ++ [9])) : Calls Tryd.prog 5 #[v] w fun e w' => (∃ v', e = .returned (.tuple #[.int .i64 7, v', .int .i64 13, .int .i64 0]) ∧ Bs w' v' kAbc) ∧ Below w.heap.size w w' := by
  have hl : (kSeal ++ [9]).length = 13 + 1 := by decide +kernel
  obtain ⟨g, off, c, rfl⟩ := h.openedK hl
  have q := next_ok g off 13 c (kSeal ++ [9]) w h (by decide +kernel) 0 3 (by decide +kernel) (by decide) (by decide) (.inl rfl) (by decide +kernel) (by decide) (by decide) (by decide +kernel)
  have e1 : (kSeal ++ [9]).getD 0 0 = 7 := by decide +kernel
  have e2 : (((kSeal ++ [9]).drop 1).drop (0 + 1)).take 3 = kAbc := by decide +kernel
  rw [e1, e2] at q
  exact q
theorem next_k0 (v : Value) (w : World) (h : Bs w v [0]) : Calls Tryd.prog 5 #[v] w (RetNo 2 w) := by
  obtain ⟨g, off, c, rfl⟩ := h.openedK (len := 0) rfl
  exact next_zero g off 0 c [0] w h rfl
theorem next_k1 (v : Value) (w : World) (h : Bs w v [1, 128, 0]) : Calls Tryd.prog 5 #[v] w (RetNo 2 w) := by
  obtain ⟨g, off, c, rfl⟩ := h.openedK (len := 2) rfl
  obtain ⟨_, hc, _⟩ := h.len
  exact next_cut 2 (by decide) g off 2 c _ w h (by decide) (by omega) (cutCount_form _ _ 1 (by decide +kernel) (by decide) (by decide) rfl w h.behind)
theorem next_k2 (v : Value) (w : World) (h : Bs w v [1, 255, 255, 255, 127]) : Calls Tryd.prog 5 #[v] w (RetNo 4 w) := by
  obtain ⟨g, off, c, rfl⟩ := h.openedK (len := 4) rfl
  exact next_long g off 4 c _ w h (by decide) 3 268435455 (by decide +kernel) (by decide) (by decide) (.inr (by decide)) (by decide +kernel) (by decide) (by decide)
theorem next_k3 (v : Value) (w : World) (h : Bs w v (kSeal.take 12)) : Calls Tryd.prog 5 #[v] w (RetNo 3 w) := by
  obtain ⟨g, off, c, rfl⟩ := h.openedK (len := 11) (by decide +kernel)
  exact next_short g off 11 c _ w h (by decide +kernel) 0 3 (by decide +kernel) (by decide) (by decide) (.inl rfl) (by decide +kernel) (by decide) (by decide) (by decide)
set_option maxRecDepth 100000 in
set_option maxHeartbeats 8000000 in
theorem octetKnown_walk (w : World) : Calls Tryd.prog 3 #[] w fun e w' => e = .returned (.bool true) ∧ Below w.heap.size w w' := by
  have kc := fun (w : World) (C : Array Value) (n c : Nat) => Lib.run_convert_bytes_const (P := Tryd.prog) w 22 5 C n c Tryd.underlying22 Tryd.underlying5
  go_enter Tryd.func3, Tryd.ntmps3
  go_wp2_with fail
  have b1 : Below w.heap.size w (w.alloc (.cells #[.int .u8 97, .int .u8 98, .int .u8 99] 5 (3, 4))) := by go_grown
  have hb1 : Bs (w.alloc (.cells #[.int .u8 97, .int .u8 98, .int .u8 99] 5 (3, 4))) (.slice (some ⟨w.heap.size, 0, none⟩) 3 3) kAbc :=
    ⟨_, 3, rfl, by decide, by decide, octs_dec (by decide), fun _ => ⟨w.heap.size, 0, rfl, fun j hj => by
      rw [Nat.zero_add, World.cell?_alloc_mark]
      have hj3 : j < 3 := hj
      rcases (show j = 0 ∨ j = 1 ∨ j = 2 by omega) with rfl | rfl | rfl <;> rfl⟩⟩
  generalize (w.alloc (.cells #[.int .u8 97, .int .u8 98, .int .u8 99] 5 (3, 4))) = w1 at b1 hb1 ⊢
  refine (seal_any 7 (by decide) _ kAbc (by decide) w1 hb1).mono ?_
  rintro e w2 ⟨g, z, rfl, hA, hg, b2⟩
  rw [show (sealed 7 kAbc).length = 13 from kSeal_len]
  have hlen : (sealed 7 kAbc).length = 13 := kSeal_len
  have hb2 : Bs w2 (.slice (some ⟨g, 0, none⟩) 13 13) kSeal := by
    have := Bs.arr (n := 13) (c := 13) hA (by rw [List.length_append, hlen]; omega) (by decide) (by decide) (by rw [List.take_left' hlen]; exact kSeal_octs)
    rwa [List.take_left' hlen] at this
  have B2 := b1.trans (b2.mono b1.size)
  clear hA hb1 b1 b2 hlen
  have b3 : Below w2.heap.size w2 (w2.alloc (.cells #[.int .u8 9] 5)) := by go_grown
  have hb3 : Bs (w2.alloc (.cells #[.int .u8 9] 5)) (.slice (some ⟨w2.heap.size, 0, none⟩) 1 1) [9] := lit_bs w2 [9] (octs_dec (by decide)) (by decide)
  obtain ⟨v4, w4, hrun, ho4, b4⟩ := app_full (hb2.below b3) hb3 (by decide) (by decide)
  have hb4 := ho4.bs (kSeal_octs.app (octs_dec (by decide))) (by rw [List.length_append, kSeal_len]; decide)
  replace hb2 := (hb2.below b3).below b4
  have B3 := B2.trans (b3.mono B2.size)
  have B4 := B3.trans (b4.mono B3.size)
  have Hrun := Lib.hid hrun
  clear hrun ho4 b3 b4 hb3 B2 B3
  go_wp2_with (at_builtin; refine Lib.wpList_append_run _ rfl _ _ _ _ rfl _ _ rfl rfl _ _ Hrun.out ?_)
  refine (next_k v4 w4 hb4).mono ?_
  rintro e w5 ⟨⟨vx, rfl, hx⟩, b5⟩
  replace hb2 := hb2.below b5
  have B5 := B4.trans (b5.mono B4.size)
  clear hb4 B4 b5
  go_wp2_with fail
  refine (seal_argK 0 (.inl (by decide)) _ w5).mono ?_
  rintro e w6 ⟨rfl, rfl⟩
  go_wp2_with fail
  refine (next_nil none 0 w5).mono ?_
  rintro e w6 ⟨rfl, b6⟩
  replace hb2 := hb2.below b6
  replace hx := hx.below b6
  have B6 := B5.trans (b6.mono B5.size)
  have b7 : Below w6.heap.size w6 (w6.alloc (.cells #[.int .u8 0] 5)) := by go_grown
  have hb7 : Bs (w6.alloc (.cells #[.int .u8 0] 5)) (.slice (some ⟨w6.heap.size, 0, none⟩) 1 1) [0] := lit_bs w6 [0] (octs_dec (by decide)) (by decide)
  replace hb2 := hb2.below b7
  replace hx := hx.below b7
  have B7 := B6.trans (b7.mono B6.size)
  clear B5 b6
  go_wp2_with fail
  refine (next_k0 _ _ hb7).mono ?_
  rintro e w8 ⟨rfl, b8⟩
  replace hb2 := hb2.below b8
  replace hx := hx.below b8
  have B8 := B7.trans (b8.mono B7.size)
  clear b7 hb7 B6 B7 b8
  have b9 : Below w8.heap.size w8 (w8.alloc (.cells #[.int .u8 1, .int .u8 128, .int .u8 0] 5)) := by go_grown
  have hb9 : Bs (w8.alloc (.cells #[.int .u8 1, .int .u8 128, .int .u8 0] 5)) (.slice (some ⟨w8.heap.size, 0, none⟩) 3 3) [1, 128, 0] := lit_bs w8 [1, 128, 0] (octs_dec (by decide)) (by decide)
  replace hb2 := hb2.below b9
  replace hx := hx.below b9
  have B9 := B8.trans (b9.mono B8.size)
  go_wp2_with fail
  refine (next_k1 _ _ hb9).mono ?_
  rintro e w10 ⟨rfl, b10⟩
  replace hb2 := hb2.below b10
  replace hx := hx.below b10
  have B10 := B9.trans (b10.mono B9.size)
  clear b9 hb9 B8 B9 b10
  have b11 : Below w10.heap.size w10 (w10.alloc (.cells #[.int .u8 1, .int .u8 255, .int .u8 255, .int .u8 255, .int .u8 127] 5)) := by go_grown
  have hb11 : Bs (w10.alloc (.cells #[.int .u8 1, .int .u8 255, .int .u8 255, .int .u8 255, .int .u8 127] 5)) (.slice (some ⟨w10.heap.size, 0, none⟩) 5 5) [1, 255, 255, 255, 127] := lit_bs w10 [1, 255, 255, 255, 127] (octs_dec (by decide)) (by decide)
  replace hb2 := hb2.below b11
  replace hx := hx.below b11
  have B11 := B10.trans (b11.mono B10.size)
  go_wp2_with fail
  refine (next_k2 _ _ hb11).mono ?_
  rintro e w12 ⟨rfl, b12⟩
  replace hb2 := hb2.below b12
  replace hx := hx.below b12
  have B12 := B11.trans (b12.mono B11.size)
  clear b11 hb11 B10 B11 b12
  have hf := hb2.front (n := 12) (by decide)
  go_wp2_with fail
  refine (next_k3 _ _ hf).mono ?_
  rintro e w13 ⟨rfl, b13⟩
  replace hx := hx.below b13
  have B13 := B12.trans (b13.mono B12.size)
  clear hf hb2 B12 b13
  have b14 : Below w13.heap.size w13 (w13.alloc (.cells #[.int .u8 1, .int .u8 5] 5)) := by go_grown
  have hb14 : Bs (w13.alloc (.cells #[.int .u8 1, .int .u8 5] 5)) (.slice (some ⟨w13.heap.size, 0, none⟩) 2 2) [1, 5] := lit_bs w13 [1, 5] (octs_dec (by decide)) (by decide)
  replace hx := hx.below b14
  have B14 := B13.trans (b14.mono B13.size)
  go_wp2_with fail
  refine (newReader_bs _ [1, 5] (by decide) _ hb14).mono ?_
  rintro e w15 ⟨rb, vr, rfl, hr, hrv, hrb, b15⟩
  have B15 := B14.trans (b15.mono B14.size)
  have hrw : w.heap.size ≤ rb := Nat.le_trans B14.size hrb
  clear b14 hb14 B13 B14
  go_wp2_with fail
  refine (rwhole_bad rb vr w15 hr hrv).mono ?_
  rintro e w16 ⟨rfl, hr16, g16⟩
  have B16 := B15.grown g16 B15.size (fun j e => by cases e; exact hrw)
  have hx16 := hx.below (b15.grown g16 b15.size (fun j e => by cases e; exact hrb))
  clear hr hrv B15 g16 hx
  go_wp2_with fail
  have b17 : Below w16.heap.size w16 (w16.alloc (.cells #[.bool false, .int .u64 0, .slice none 0 0] 35)) := by go_grown
  have hr17 := hr16.below b17 hr16.lt
  have hx17 := hx16.below b17
  have B17 := B16.trans (b17.mono B16.size)
  have hN := heap_new w16 (.cells #[.bool false, .int .u64 0, .slice none 0 0] 35) w16.heap.size rfl
  generalize (w16.alloc (.cells #[.bool false, .int .u64 0, .slice none 0 0] 35)) = w17 at b17 hr17 hx17 B17 hN ⊢
  obtain ⟨qb, hqb⟩ : ∃ qb, w16.heap.size = qb := ⟨_, rfl⟩
  rw [hqb] at hN ⊢
  have hlN := (Array.getElem?_eq_some_iff.1 hN).1
  clear hr16 hx16 B16 b17
  refine (known4_true w17).mono ?_
  rintro e w18 ⟨rfl, b18⟩
  have hr18 := hr17.below b18 hr17.lt
  have hx18 := hx17.below b18
  have B18 := B17.trans (b18.mono B17.size)
  have hN18 := (b18.block qb hlN).trans hN
  have hs := str_bs' hx18
  have hs2 : strOfNums kAbc = ⟨#[97, 98, 99]⟩ := rfl
  rw [hs2] at hs
  clear hr17 hx17 B17 b18 hx18 hN hlN
  go_wp2_with fail
  refine (sum_bs _ [] _ (Bs.nil _)).mono ?_
  rintro e w19 ⟨rfl, rfl⟩
  rw [show fnv f0 [] = 14695981039346656037 from rfl]
  have c0 : w18.cell? ⟨qb, 0, none⟩ = some (.bool false) := by rw [cell_of_row w18 _ 0 _ _ (0, 0) hN18]; rfl
  have c1 : w18.cell? ⟨qb, 1, none⟩ = some (.int .u64 0) := by rw [cell_of_row w18 _ 1 _ _ (0, 0) hN18]; rfl
  have c2 : w18.cell? ⟨qb, 2, none⟩ = some (.slice none 0 0) := by rw [cell_of_row w18 _ 2 _ _ (0, 0) hN18]; rfl
  go_wp2_with fail
  refine (sign_zero w18).mono ?_
  rintro e w19 ⟨rfl, b19⟩
  have hr19 := hr18.below b19 hr18.lt
  have B19 := B18.trans (b19.mono B18.size)
  clear hr18 B18 b19 c0 c1 c2 hN18 hs
  go_wp2_with fail
  refine (bad_any rb _ _ w19 hr19).mono ?_
  rintro e w20 ⟨rfl, rfl⟩
  go_wp2_with fail
  refine (left_any rb none 0 0 true w19 hr19).mono ?_
  rintro e w20 ⟨rfl, rfl⟩
  go_wp2_with fail
  refine (bool_none rb w19 hr19).mono ?_
  rintro e w20 ⟨rfl, hr20, g20⟩
  have B20 := B19.grown g20 B19.size (fun j e => by cases e; exact hrw)
  go_wp2_with fail
  refine (text_none rb w20 hr20).mono ?_
  rintro e w21 ⟨rfl, g21⟩
  have B21 := B20.grown g21 B20.size (fun j e => by cases e; exact hrw)
  clear hr19 hr20 B19 B20 g20 g21
  go_wp2_with fail
  go_ret
  exact ⟨rfl, B21⟩
end Go.Proofs.YtkggglhnhlclmaaDoor
