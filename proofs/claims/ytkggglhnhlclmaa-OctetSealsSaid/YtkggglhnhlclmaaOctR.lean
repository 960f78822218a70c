/- The document's own octet: Sum, Count, Seal. -/
import Derived.Test.YtkggglhnhlclmaaOctI
namespace Go.Proofs.Ytkggglhnhlclmaa
open Go.RowKit
set_option linter.unusedVariables false

set_option maxRecDepth 100000 in
theorem refSum_bs (v : Value) (l : List Int) (w : World) (h : Bs w v l) : Calls Try.prog 10 #[v] w fun e w' => e = .returned (.int .u64 (fnv f0 l)) ∧ w = w' := by
  obtain ⟨p, c, rfl, h1, h2, ho, h4⟩ := h
  obtain ⟨len, hlen⟩ : ∃ len, l.length = len := ⟨_, rfl⟩
  rw [hlen] at h1 h2 h4 ⊢
  go_enter Try.func10, Try.ntmps10
  go_wp2_with fail
  go_loopg [3, 4] len (fun g s i wr => ∃ k : Nat, g = len - k ∧ k ≤ len ∧ s = .int .u64 (fnv f0 (l.take k)) ∧ i = .int .i64 k ∧ w = wr)
  case atStart => exact ⟨0, rfl, Nat.zero_le _, rfl, rfl, rfl⟩
  case round =>
    obtain ⟨k, hg, hk, rfl, rfl, rfl⟩ := hrel
    have Hg := Lib.hid hg
    clear hg
    by_cases hlt : k < len
    · obtain ⟨g, off, rfl, hc⟩ := h4 (by omega)
      have hx := hc k hlt
      have ox := ho.getD k
      have hs := fnv_snoc (h := f0) (l := l) (k := k) (by omega)
      obtain ⟨x, hxx⟩ : ∃ x, l.getD k 0 = x := ⟨_, rfl⟩
      rw [hxx] at hx ox hs
      have w64 := octet_u64 ox
      obtain ⟨s, hss⟩ : ∃ s, fnv f0 (l.take k) = s := ⟨_, rfl⟩
      rw [hss] at hs ⊢
      have Hs := Lib.hid hs
      clear hs hss hxx hc h4
      go_wp2_with fail
      go_roundg (len - (k + 1))
      case measure => have := Hg.out; omega
      case rel => exact ⟨k + 1, rfl, by omega, by rw [Hs.out]; rfl, by go_num, rfl⟩
    · obtain rfl : k = len := by omega
      rw [← hlen, List.take_length]
      clear h4
      go_wp2_with fail
      go_ret
      exact ⟨rfl, rfl⟩
theorem mod_more (n : Nat) : bits .or .u8 ((n % 128 : Nat) : Int) 128 = ((n % 128 + 128 : Nat) : Int) := by
  have h := or_more (n % 128)
  rw [Nat.mod_mod, IntKind.wrap_u8, show (((n % 128 : Nat)) : Int) % 256 = ((n % 128 : Nat) : Int) by omega] at h
  exact h
theorem and_low (n : Nat) (hn : n < 18446744073709551616) : bits .and .u64 (n : Int) 127 = ((n % 128 : Nat) : Int) := by
  show IntKind.u64.wrap ((BitVec.ofInt 64 (n : Int) &&& BitVec.ofInt 64 127).toNat : Int) = _
  have e : (BitVec.ofInt 64 127).toNat = 2 ^ 7 - 1 := by decide
  rw [BitVec.toNat_and, BitVec.ofInt_natCast, BitVec.toNat_ofNat, Nat.mod_eq_of_lt (by omega), e, Nat.and_two_pow_sub_one_eq_mod, IntKind.wrap_u64]
  omega
set_option maxRecDepth 100000 in
theorem refCount_any (n : Nat) (hn : n < 4611686018427387904) (v : Value) (xs : List Int) (B : Nat) (w : World) (hB : B ≤ w.heap.size) (h : Own w B .u8 5 v xs) (hm : xs.length ≤ 4000000000) :
    Calls Try.prog 20 #[v, .int .i64 n] w (RetApp v xs (cnt n) B w) := by
  have hlen := cnt_len n 9 (by omega)
  have Hlen := Lib.hid hlen
  have mx : max (0 : Int) (n : Int) = (n : Int) := by omega
  have wn : IntKind.u64.wrap (n : Int) = (n : Int) := by rw [IntKind.wrap_u64]; omega
  clear hlen
  go_enter Try.func20, Try.ntmps20
  go_wp2_with fail
  clear mx wn
  go_loopg [0, 5] n (fun g bv nv wr => ∃ (m : Nat) (pre : List Int), g = m ∧ m ≤ n ∧ nv = .int .u64 m ∧ cnt n = pre ++ cnt m ∧ Own wr B .u8 5 bv (xs ++ pre) ∧ Below B w wr ∧ Keeps v bv w wr)
  case atStart => exact ⟨n, [], rfl, Nat.le_refl _, rfl, rfl, by rw [List.append_nil]; exact h, Below.refl _ _, Keeps.below (Below.refl _ _)⟩
  case round =>
    obtain ⟨m, pre, hg, hmn, rfl, hcnt, ho, hBl, hk⟩ := hrel
    have Hg := Lib.hid hg
    have Hcnt := Lib.hid hcnt
    have hpl : pre.length ≤ 10 := by
      have := congrArg List.length hcnt
      rw [List.length_append] at this
      have := Hlen.out
      omega
    have hBr := Nat.le_trans hB hBl.size
    clear hg hcnt h
    obtain ⟨p0, c0, rfl⟩ := ho.shape
    obtain ⟨L, hL⟩ : ∃ L, (xs ++ pre).length = L := ⟨_, rfl⟩
    have hLl : L ≤ 4000000010 := by rw [← hL, List.length_append]; omega
    rw [hL] at ho hk ⊢
    by_cases hlt : m < 128
    · have hlt' : ¬ (127 : Int) < (m : Int) := by omega
      have w8 : IntKind.u8.wrap (m : Int) = (m : Int) := by rw [IntKind.wrap_u8]; omega
      obtain ⟨v1, w1, hrun, ho1, hb1, hk1⟩ := app_cell (h := wr.heap.size) (y := (m : Int)) (B := B) (by rw [World.size_alloc]; omega) (ho.alloc (.cells #[.int .u8 (m : Int)] 5)) (cell_new wr _ _) (by rw [hL]; omega)
      have Hrun := Lib.hid hrun
      have e := Hcnt.out
      rw [cnt_small hlt] at e
      clear hrun Hcnt
      go_wp2_with (at_builtin; refine Lib.wpList_append_run _ rfl _ _ _ _ rfl _ _ rfl rfl _ _ Hrun.out ?_)
      go_ret
      exact ⟨_, rfl, by rw [← List.append_assoc]; exact ho1, (hBl.trans (below_new B wr _ hBr)).trans hb1, (hk.trans (keeps_new _ wr _)).trans hk1⟩
    · have hge : (127 : Int) < (m : Int) := by omega
      have hand := and_low m (by omega)
      have w8 : IntKind.u8.wrap (((m % 128 : Nat)) : Int) = ((m % 128 : Nat) : Int) := by rw [IntKind.wrap_u8]; omega
      have hor := mod_more m
      obtain ⟨z, hz⟩ : ∃ z : Int, ((m % 128 : Nat) : Int) = z := ⟨_, rfl⟩
      obtain ⟨y, hy⟩ : ∃ y : Int, ((m % 128 + 128 : Nat) : Int) = y := ⟨_, rfl⟩
      rw [hz] at hand w8
      rw [hz, hy] at hor
      obtain ⟨v1, w1, hrun, ho1, hb1, hk1⟩ := app_cell (h := wr.heap.size) (y := y) (B := B) (by rw [World.size_alloc]; omega) (ho.alloc (.cells #[.int .u8 y] 5)) (cell_new wr _ _) (by rw [hL]; omega)
      have Hrun := Lib.hid hrun
      have e := Hcnt.out
      rw [cnt_great hlt, hy] at e
      have He := Lib.hid e
      have sh : (m : Int) / 2 ^ 7 = ((m / 128 : Nat) : Int) := by omega
      clear hrun Hcnt hy hz e
      go_wp2_with (at_builtin; refine Lib.wpList_append_run _ rfl _ _ _ _ rfl _ _ rfl rfl _ _ Hrun.out ?_)
      go_roundg (m / 128)
      case measure => have := Hg.out; omega
      case rel => exact ⟨m / 128, pre ++ [y], rfl, by omega, by go_num, by rw [He.out]; simp, by rw [← List.append_assoc]; exact ho1, (hBl.trans (below_new B wr _ hBr)).trans hb1, (hk.trans (keeps_new _ wr _)).trans hk1⟩
set_option maxRecDepth 100000 in
set_option maxHeartbeats 400000 in
theorem refSeal_any (k : Int) (hk : 1 ≤ k ∧ k ≤ 255) (v : Value) (l : List Int) (hl : l.length ≤ 4194304) (w : World) (h : Bs w v l) : Calls Try.prog 8 #[.int .i64 k, v] w fun e w' => ∃ v', e = .returned v' ∧ Own w' w.heap.size .u8 5 v' (sealed k l) ∧ Below w.heap.size w w' := by
  have hoc := h.octs
  have hbs := h
  have hcl := cnt_len l.length 3 (by omega)
  have hco := cnt_octs l.length
  obtain ⟨C, hC⟩ : ∃ C, cnt l.length = C := ⟨_, rfl⟩
  have ac := fun (v1 : Value) (xs : List Int) (B : Nat) (W : World) (hB : B ≤ W.heap.size) (ho : Own W B .u8 5 v1 xs) (hm : xs.length ≤ 4000000000) => refCount_any l.length (by omega) v1 xs B W hB ho hm
  rw [hC] at hcl hco ac
  have e1 : sealed k l = (k :: (C ++ l)) ++ be8 (fnv f0 (k :: (C ++ l))) := by unfold sealed recd; rw [hC]
  have okb : Octs (k :: (C ++ l)) := by
    intro x hx
    rcases List.mem_cons.1 hx with rfl | hx
    · omega
    · exact hco.app hoc x hx
  have kl : (k :: (C ++ l)).length ≤ 4194310 := by rw [List.length_cons, List.length_append]; omega
  obtain ⟨S, hS⟩ : ∃ S, k :: (C ++ l) = S := ⟨_, rfl⟩
  rw [hS] at e1 okb kl
  have w8 : IntKind.u8.wrap k = k := by rw [IntKind.wrap_u8]; omega
  obtain ⟨p, c, rfl⟩ := h.shape
  obtain ⟨len, hlen⟩ : ∃ len, l.length = len := ⟨_, rfl⟩
  rw [hlen] at hl ac hbs ⊢
  have own1 : Own (w.alloc (.cells #[.int .u8 k] 5)) w.heap.size .u8 5 (.slice (some ⟨w.heap.size, 0, none⟩) 1 1) [k] := .inr ⟨w.heap.size, 0, rfl, Arr.new w _ _ [k] _ rfl, Nat.le_refl _⟩
  have b1 : Below w.heap.size w (w.alloc (.cells #[.int .u8 k] 5)) := by go_grown
  have sm := fun v W (g : Bs W v S) => refSum_bs v S W g
  have hn := fnv_word f0_word S
  rw [e1]
  obtain ⟨n, hnn⟩ : ∃ n, fnv f0 S = n := ⟨_, rfl⟩
  rw [hnn] at hn sm ⊢
  have HS := Lib.hid hS
  clear hC hoc e1 hS h hnn
  go_enter Try.func8, Try.ntmps8
  go_wp2_with fail
  refine (ac _ [k] w.heap.size _ b1.size own1 (by simp)).mono ?_
  rintro e w3 ⟨v3, rfl, ho3, b3, _⟩
  obtain ⟨v4, w4, hrun2, ho4, b4, _⟩ := app_bs (B := w.heap.size) (Nat.le_trans b1.size b3.size) ho3 (hbs.below (b1.trans b3)) (by rw [List.length_append, List.length_singleton, hlen]; omega)
  rw [show [k] ++ C ++ l = S by rw [← HS.out]; simp] at ho4
  have hs4 := ho4.bs okb (by omega)
  have hb4 := (b1.trans b3).trans b4
  have Hrun2 := Lib.hid hrun2
  clear hrun2 ac hbs b1 b3 b4 ho3
  go_wp2_with (at_builtin; refine Lib.wpList_append_run _ rfl _ _ _ _ rfl _ _ rfl rfl _ _ Hrun2.out ?_)
  refine (sm v4 w4 hs4).mono ?_
  rintro e w' ⟨rfl, rfl⟩
  clear hs4 Hrun2 sm
  obtain ⟨K0, hK0⟩ : ∃ K0, S.length = K0 := ⟨_, rfl⟩
  go_wp2_with fail
  go_loopg [5, 7] 8 (fun g bv iv wr => ∃ k : Nat, g = 8 - k ∧ k ≤ 8 ∧ iv = .int .i64 (7 - (k : Int)) ∧ Own wr w.heap.size .u8 5 bv (S ++ (be8 n).take k) ∧ Below w.heap.size w wr)
  case atStart => exact ⟨0, rfl, Nat.zero_le _, rfl, by rw [List.take_zero, List.append_nil]; exact ho4, hb4⟩
  case round =>
    obtain ⟨k, hg, hk8, rfl, ho, hBl⟩ := hrel
    have Hg := Lib.hid hg
    have hBr := hBl.size
    clear hg ho4 hb4
    obtain ⟨p0, c0, rfl⟩ := ho.shape
    obtain ⟨L, hL⟩ : ∃ L, (S ++ (be8 n).take k).length = L := ⟨_, rfl⟩
    have hLl : L ≤ 4000000010 := by rw [← hL, List.length_append, List.length_take]; omega
    rw [hL] at ho ⊢
    by_cases hlt : k < 8
    · have hd := byte_down (n := n) k hlt
      have htk := take_snoc (be8 n) k 0 (by rw [be8_length]; exact hlt)
      obtain ⟨y, hy⟩ : ∃ y : Int, (be8 n).getD k 0 = y := ⟨_, rfl⟩
      rw [hy] at hd htk
      obtain ⟨s, hs⟩ : ∃ s : Nat, 8 * (7 - k) = s := ⟨_, rfl⟩
      rw [hs] at hd
      have e1 : (8 : Int) * (7 - (k : Int)) = (s : Int) := by omega
      have s64 : s < 64 := by omega
      have ge : (0 : Int) ≤ 7 - (k : Int) := by omega
      have ws : IntKind.u64.wrap (s : Int) = (s : Int) := by rw [IntKind.wrap_u64]; omega
      obtain ⟨v1, w1, hrun, ho1, hb1, hk1⟩ := app_cell (h := wr.heap.size) (y := y) (B := w.heap.size) (by rw [World.size_alloc]; omega) (ho.alloc (.cells #[.int .u8 y] 5)) (cell_new wr _ _) (by rw [hL]; omega)
      have Hrun := Lib.hid hrun
      have Htk := Lib.hid htk
      have Hs := Lib.hid hs
      clear hrun htk hy hs
      go_wp2_with (at_builtin; refine Lib.wpList_append_run _ rfl _ _ _ _ rfl _ _ rfl rfl _ _ Hrun.out ?_)
      go_roundg (8 - (k + 1))
      case measure => have := Hg.out; omega
      case rel => exact ⟨k + 1, rfl, by omega, by go_num, by rw [Htk.out, ← List.append_assoc]; exact ho1, (hBl.trans (below_new _ wr _ hBr)).trans hb1⟩
    · obtain rfl : k = 8 := by omega
      rw [List.take_of_length_le (by rw [be8_length]; exact Nat.le_refl 8)] at ho
      go_wp2_with fail
      go_ret
      exact ⟨_, rfl, ho, hBl⟩
end Go.Proofs.Ytkggglhnhlclmaa
