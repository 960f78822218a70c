/- Contract of octet.Seal. -/
import Derived.Test.YtkggglhnhlclmaaDoorOctB
namespace Go.Proofs.YtkggglhnhlclmaaDoor
open Go.RowKit
set_option linter.unusedVariables false

theorem make8c (c : Nat) (hc : c ≤ 281474976710656) (w : World) :
    (Instr.makeSlice 22 (.int .i64 0) (.int .i64 (c : Int))).run Tryd.prog w = .ok (.slice (some ⟨w.heap.size, 0, none⟩) 0 c) (w.alloc (.cells (zeros .u8 c) 5)) := by
  obtain ⟨i0, hi, hz0, hz1, hz2⟩ := info_parts info8'
  have hr := run_make (P := Tryd.prog) w 22 5 i0 _ Tryd.underlying22 hi hz0 .i64 .i64 0 c (by omega) (by omega) (by rw [hz2]; omega) (by omega)
  rw [hr, Int.toNat_natCast, hz1, Nat.mul_one]
  show Result.ok _ (w.alloc (.cells (madeCells #[.int .u8 0] c) 5)) = _
  rw [madeCells_zeros]
  rfl
theorem own_room (w : World) (c : Nat) : Own (w.alloc (.cells (zeros .u8 c) 5)) w.heap.size .u8 5 (.slice (some ⟨w.heap.size, 0, none⟩) 0 c) [] :=
  .inr ⟨w.heap.size, c, by rw [List.length_nil, Nat.zero_add], by rw [List.nil_append]; exact Arr.zeros w _ _ c _ rfl, Nat.le_refl _⟩
theorem Own.bs {w : World} {B : Nat} {v : Value} {xs : List Int} (h : Own w B .u8 5 v xs) (ho : Octs xs) (hm : xs.length ≤ 9223372036854775807) : Bs w v xs := by
  rcases h with ⟨rfl, rfl⟩ | ⟨b, z, rfl, ha, hb⟩
  · exact Bs.nil w
  · have := Bs.arr (w := w) (n := xs.length) (c := xs.length + z) ha (by simp) (by omega) hm (by rw [List.take_left]; exact ho)
    rwa [List.take_left] at this
/-- A record in memory of its own. -/
def RetSeal (k : Int) (l : List Int) (w : World) (e : Ending) (w' : World) : Prop := ∃ g z, e = .returned (.tuple #[.slice (some ⟨g, 0, none⟩) (sealed k l).length (sealed k l).length, .int .i64 0]) ∧ Arr w' g 5 .u8 (sealed k l ++ List.replicate z 0) ∧ w.heap.size ≤ g ∧ Below w.heap.size w w'
set_option maxRecDepth 100000 in
set_option maxHeartbeats 400000 in
theorem seal_any (k : Int) (hk : 1 ≤ k ∧ k ≤ 255) (v : Value) (l : List Int) (hl : l.length ≤ 4194304) (w : World) (h : Bs w v l) : Calls Tryd.prog 4 #[.int .i64 k, v] w (RetSeal k l w) := by
  have hoc := h.octs
  have hbs := h
  have h0 := cnt_pos l.length
  have hcl := cnt_len l.length 3 (by omega)
  have hco := cnt_octs l.length
  obtain ⟨C, hC⟩ : ∃ C, cnt l.length = C := ⟨_, rfl⟩
  have ac := fun (v1 : Value) (xs : List Int) (B : Nat) (W : World) (hB : B ≤ W.heap.size) (ho : Own W B .u8 5 v1 xs) (hm : xs.length ≤ 4000000000) => appendCount_any l.length (by omega) v1 xs B W hB ho hm
  rw [hC] at hcl hco ac
  have e1 : sealed k l = (k :: (C ++ l)) ++ be8 (fnv f0 (k :: (C ++ l))) := by unfold sealed recd; rw [hC]
  have okb : Octs (k :: (C ++ l)) := by
    intro x hx
    rcases List.mem_cons.1 hx with rfl | hx
    · omega
    · exact hco.app hoc x hx
  have kl : (k :: (C ++ l)).length ≤ 4194310 := by rw [List.length_cons, List.length_append]; omega
  obtain ⟨S, hS⟩ : ∃ S, k :: (C ++ l) = S := ⟨_, rfl⟩
  rw [hS] at e1 okb kl
  have w8 : IntKind.u8.wrap k = k := by rw [IntKind.wrap_u8]; omega
  obtain ⟨p, c, rfl, h1, h2, ho, h4⟩ := h
  obtain ⟨len, hlen⟩ : ∃ len, l.length = len := ⟨_, rfl⟩
  rw [hlen] at h1 h2 hl ac hbs ⊢
  have w64 : IntKind.u64.wrap (len : Int) = (len : Int) := by rw [IntKind.wrap_u64]; omega
  have hmk := fun W => make8c (10 + len + 8) (by omega) W
  rw [show (((10 + len + 8 : Nat)) : Int) = 10 + (len : Int) + 8 by omega] at hmk
  have k1 : ¬ k < 1 := by omega
  have k2 : ¬ 255 < k := by omega
  have l1 : ¬ (4194304 : Int) < (len : Int) := by omega
  obtain ⟨v1, w2, hrun, ho1, hb1, _⟩ := app_cell (h := w.heap.size + 1) (y := k) (B := w.heap.size) (by rw [World.size_alloc, World.size_alloc]; omega) ((own_room w (10 + len + 8)).alloc (.cells #[.int .u8 k] 5)) (by rw [cell_of_row _ (w.heap.size + 1) 0 _ _ (0, 0) (heap_new _ _ _ (by rw [World.size_alloc]))]; rfl) (by decide)
  rw [List.nil_append] at ho1
  have b2 : Below w.heap.size w w2 := Below.trans (by go_grown) hb1
  have Hrun := Lib.hid hrun
  have He1 := Lib.hid e1
  have HS := Lib.hid hS
  clear hrun hb1 h4 hC hoc h0 e1 hS ho
  go_enter Tryd.func4, Tryd.ntmps4
  go_wp2_with (at_builtin; refine Lib.wpList_append_run _ rfl _ _ _ _ rfl _ _ rfl rfl _ _ Hrun.out ?_)
  refine (ac v1 [k] w.heap.size w2 b2.size ho1 (by simp)).mono ?_
  rintro e w3 ⟨v3, rfl, ho3, b3, _⟩
  obtain ⟨v4, w4, hrun2, ho4, b4, _⟩ := app_bs (B := w.heap.size) (Nat.le_trans b2.size b3.size) ho3 (hbs.below (b2.trans b3)) (by rw [List.length_append, List.length_singleton, hlen]; omega)
  rw [show [k] ++ C ++ l = S by rw [← HS.out]; simp] at ho4
  have hs4 := ho4.bs okb (by omega)
  have z4 : w.heap.size ≤ w4.heap.size := Nat.le_trans (Nat.le_trans b2.size b3.size) b4.size
  have Hrun2 := Lib.hid hrun2
  clear hrun2 ac hmk hbs
  go_wp2_with (at_builtin; refine Lib.wpList_append_run _ rfl _ _ _ _ rfl _ _ rfl rfl _ _ Hrun2.out ?_)
  refine (sum_bs v4 S w4 hs4).mono ?_
  rintro e w' ⟨rfl, rfl⟩
  go_wp2_with fail
  refine (appendWord_any (fnv f0 S) (fnv_word f0_word S) v4 S w.heap.size w4 z4 ho4 (by omega)).mono ?_
  rintro e w5 ⟨v5, rfl, ho5, b5, _⟩
  rw [← He1.out] at ho5
  have hbel := ((b2.trans b3).trans b4).trans b5
  obtain ⟨n, hn⟩ : ∃ n, (sealed k l).length = n := ⟨_, rfl⟩
  rcases ho5 with ⟨_, hnil⟩ | ⟨g, z, rfl, ha, hB⟩
  · rw [He1.out] at hnil
    simp [be8] at hnil
  · rw [hn]
    have n1 : n ≤ n + z := by omega
    have Hn := Lib.hid hn
    clear hn Hrun Hrun2
    go_wp2_with fail
    go_ret2
    exact ⟨g, z, by rw [Hn.out]; rfl, ha, hB, hbel⟩
end Go.Proofs.YtkggglhnhlclmaaDoor
