/- Contract of octet.Next of a record. (gen_octnext.py) -/
import Derived.Test.YtkggglhnhlclmaaDoorOctN
namespace Go.Proofs.YtkggglhnhlclmaaDoor
open Go.RowKit
set_option linter.unusedVariables false

set_option maxRecDepth 100000 in
set_option maxHeartbeats 4000000 in
theorem next_ok (g off len c : Nat) (L : List Int) (w : World) (h : Bs w (.slice (some ⟨g, off, none⟩) (len + 1) (c + 1)) L) (hk0 : L.getD 0 0 ≠ 0) (i n : Nat) (hi : low (L.drop 1) = i) (hil : i < len) (h9 : i < 9) (hz : i = 0 ∨ (L.drop 1).getD i 0 ≠ 0) (hn : grp ((L.drop 1).take (i + 1)) = n) (hn4 : n ≤ 4194304) (hlen : i + 1 + n + 8 ≤ len)
    (hne : deb ((((L.drop 1).drop (i + 1)).drop n).take 8) = fnv f0 (L.take (i + 1 + n + 1))) :
    Calls Tryd.prog 5 #[.slice (some ⟨g, off, none⟩) (len + 1) (c + 1)] w fun e w' => (∃ v', e = .returned (.tuple #[.int .i64 (L.getD 0 0), v', .int .i64 ((i + n + 10 : Nat) : Int), .int .i64 0]) ∧ Bs w' v' (((L.drop 1).drop (i + 1)).take n)) ∧ Below w.heap.size w w' := by
  have hb := h.behind
  obtain ⟨hL, _, hmax⟩ := h.len
  obtain ⟨_, hc1, hc2⟩ := hb.len
  have hcell : w.cell? ⟨g, off, none⟩ = some (.int .u8 (L.getD 0 0)) := by
    obtain ⟨p', c', hv, h1, h2, h3, h4⟩ := h
    simp only [Value.slice.injEq] at hv
    obtain ⟨rfl, hl, rfl⟩ := hv
    obtain ⟨g', off', hp, hc⟩ := h4 (by omega)
    simp only [Option.some.injEq, Addr.mk.injEq] at hp
    obtain ⟨rfl, rfl, _⟩ := hp
    exact hc 0 (by omega)
  obtain ⟨T, hT⟩ : ∃ T, L.drop 1 = T := ⟨_, rfl⟩
  have hTl : T.length = len := by rw [← hT, List.length_drop]; omega
  rw [hT] at hb hi hz hn hne ⊢
  have cc := cutCount_ok _ T i hi (by omega) h9 hz (by rw [hn]; omega) w hb
  rw [hn] at cc
  obtain ⟨x, hx⟩ : ∃ x, L.getD 0 0 = x := ⟨_, rfl⟩
  have xo := h.octs.getD 0
  rw [hx] at hcell hk0 xo ⊢
  have xb : (x == 0) = false := by simpa using hk0
  obtain ⟨R, hR⟩ : ∃ R, T.drop (i + 1) = R := ⟨_, rfl⟩
  obtain ⟨rl, hrl⟩ : ∃ rl, R.length = rl := ⟨_, rfl⟩
  have hRl : rl = len - (i + 1) := by rw [← hrl, ← hR, List.length_drop]; omega
  have rl8 : n + 8 ≤ rl := by omega
  have HRl := Lib.hid hRl
  rw [hR] at cc hne ⊢
  obtain ⟨BD, hBD⟩ : ∃ BD, R.take n = BD := ⟨_, rfl⟩
  have bdl : BD.length ≤ 4000000000 := by rw [← hBD, List.length_take]; omega
  rw [hBD]
  have hBD' := Lib.hid hBD
  clear hBD
  have wn : IntKind.i64.wrap (n : Int) = (n : Int) := by rw [IntKind.wrap_i64]; omega
  have n4 : ¬ (4194304 : Int) < (n : Int) := by omega
  have c0 : ¬ c = 0 := by omega
  clear hT hi hz hn hR hx hil hRl hlen hTl
  go_enter Tryd.func5, Tryd.ntmps5
  go_wp2_with fail
  refine cc.mono ?_
  rintro e w1 ⟨⟨v1, rfl, hv1⟩, b1⟩
  obtain ⟨p1, c1, rfl⟩ := hv1.shape
  rw [hrl] at hv1 ⊢
  have Hrl := Lib.hid hrl
  clear hrl
  have r8 : ¬ (rl : Int) < (n : Int) + 8 := by omega
  go_wp2_with fail
  refine (cut_bs _ R n (by rw [Hrl.out]; omega) w1 hv1).mono ?_
  rintro e w2 ⟨⟨v2, v3, rfl, hv2, hv3⟩, b2⟩
  replace hv3 := hv3.below b2
  rw [hBD'.out] at hv2
  replace hv2 := hv2.below b2
  go_wp2_with fail
  refine (cut_8 _ (R.drop n) (by rw [List.length_drop, Hrl.out]; omega) w2 hv3).mono ?_
  rintro e w3 ⟨⟨v4, v5, rfl, hv4, hv5⟩, b3⟩
  replace hv4 := hv4.below b3
  replace hv2 := hv2.below b3
  obtain ⟨p5, c5, rfl⟩ := hv5.shape
  obtain ⟨m, hm⟩ : ∃ m, ((R.drop n).drop 8).length = m := ⟨_, rfl⟩
  rw [hm]
  have h5l : m = rl - n - 8 := by rw [← hm, List.length_drop, List.length_drop, Hrl.out]
  have hRl := HRl.out
  have sz : ((len : Int) + 1) - (m : Int) = ((i + 1 + n + 1 + 8 : Nat) : Int) := by omega
  have hw3 := (b1.trans (b2.mono b1.size)).trans (b3.mono (Nat.le_trans b1.size b2.size))
  have hv0 := h.below hw3
  have hlen4 : ((R.drop n).take 8).length = 8 := by rw [List.length_take, List.length_drop, Hrl.out]; omega
  have k1 : i + 1 + n + 1 ≤ len + 1 := by omega
  have k2 : i + 1 + n + 1 ≤ c + 1 := by omega
  have hv6 := hv0.front k1
  obtain ⟨N, hN⟩ : ∃ N, i + 1 + n + 1 = N := ⟨_, rfl⟩
  rw [hN] at sz hne k1 k2 hv6
  have k3 : (N : Int) ≤ (c : Int) + 1 := by omega
  have sz2 : ((len : Int) + 1) - (m : Int) = (N : Int) + 8 := by omega
  obtain ⟨A, hA⟩ : ∃ A, deb ((R.drop n).take 8) = A := ⟨_, rfl⟩
  have wd := fun W (g : Bs W v4 ((R.drop n).take 8)) => word_b v4 _ W g hlen4
  have sm := fun W (g : Bs W (.slice (some ⟨g, off, none⟩) N (c + 1)) (L.take N)) => sum_b _ _ W g
  rw [hA] at wd hne
  rw [← hne] at sm
  have hcw := (hw3.cell (p := ⟨g, off, none⟩) (World.block_lt_of_cell? w ⟨g, off, none⟩ hcell)).trans hcell
  have ltg : g < w3.heap.size := World.block_lt_of_cell? w3 ⟨g, off, none⟩ hcw
  have szf : ((i + n + 10 : Nat) : Int) = (N : Int) + 8 := by omega
  have Szf := Lib.hid szf
  have tl : ∀ W, Bs W v2 BD → Calls Tryd.prog 20 #[v2] W (fun e w' => ∃ v6, e = .returned v6 ∧ Bs w' v6 BD ∧ Below W.heap.size W w') := fun W g => (fresh_bs v2 BD bdl W g).mono (fun e w' h => by
    obtain ⟨p6, z6, he, hb6, _, hb⟩ := h
    exact ⟨_, he, hb6, hb⟩)
  have wx : IntKind.i64.wrap x = x := by rw [IntKind.wrap_i64]; omega
  clear szf
  have wN : IntKind.i64.wrap (N : Int) = (N : Int) := by rw [IntKind.wrap_i64]; omega
  clear hne hA hN hm h5l sz hcell cc hb hv1 hv3 hv5 b1 b2 b3 hRl
  go_wp2_with fail
  refine wpIn_wide (n := 5) |>.1 ?_
  refine region_ways (by kernel_rfl) fun R hR => ?_
  have H11111111 : ∀ (W : World) (acc : Below w3.heap.size w3 W), R 0 #[true, true, true, true, true, true, true, true] { tmps := #[.slice (some ⟨g, off, none⟩) (len + 1) (c + 1), undef, .int .i64 0, v2, .int .i64 ((N : Int) + 8), .int .i64 0, .int .u64 (n : Int), .slice p5 m c5, v4, .slice (some ⟨g, off, none⟩) (len + 1) (c + 1), .int .i64 ((len : Int) + 1), .bool false, .slice (some ⟨g, off, none⟩) (len + 1) (c + 1), .pointer (some ⟨g, off, none⟩), .int .u8 x, .bool false, .tuple #[.int .u64 (n : Int), .slice p1 rl c1, .int .i64 0], .slice (some ⟨g, off, none⟩) (len + 1) (c + 1), .slice (some ⟨g, off + 1, none⟩) len c, .tuple #[.int .u64 (n : Int), .slice p1 rl c1, .int .i64 0], .int .u64 (n : Int), .slice p1 rl c1, .int .i64 0, .bool false, .int .i64 0, .bool false, undef, .bool (decide (4194304 < (n : Int))), .int .u64 (n : Int), .bool (decide (4194304 < (n : Int))), .bool (decide ((rl : Int) < (n : Int) + 8)), .slice p1 rl c1, .int .i64 (rl : Int), .int .u64 (n : Int), .int .i64 (n : Int), .int .i64 ((n : Int) + 8), .bool (decide ((rl : Int) < (n : Int) + 8)), .tuple #[v2, v3], .slice p1 rl c1, .int .u64 (n : Int), .int .i64 (n : Int), .tuple #[v2, v3], v2, v3, .tuple #[v4, .slice p5 m c5], v3, .tuple #[v4, .slice p5 m c5], v4, .slice p5 m c5, .slice (some ⟨g, off, none⟩) (len + 1) (c + 1), .int .i64 ((len : Int) + 1), .slice p5 m c5, .int .i64 (m : Int), .int .i64 ((N : Int) + 8), v4, .int .u64 A, .slice (some ⟨g, off, none⟩) (len + 1) (c + 1), .int .i64 ((N : Int) + 8), .int .i64 (N : Int), .slice (some ⟨g, off, none⟩) N (c + 1), .int .u64 A, .bool false, undef, undef, undef, undef, undef, undef, undef], defers := [] } W := by
    intro W acc
    rw [← hR]
    refine wpAnyIn_done (by kernel_rfl) ?_ _
    go_wp2_with fail
    refine wpIn_wide (n := 5) |>.1 ?_
    refine region_ways (by kernel_rfl) fun R hR => ?_
    have H11111111111 : ∀ (W : World) (acc : Below w3.heap.size w3 W) (v6 : Value) (hb6 : Bs W v6 BD), R 0 #[true, true, true, true, true, true, true, true, true, true, true] { tmps := #[.slice (some ⟨g, off, none⟩) (len + 1) (c + 1), undef, .int .i64 x, v6, .int .i64 ((N : Int) + 8), .int .i64 0, .int .u64 (n : Int), .slice p5 m c5, v4, .slice (some ⟨g, off, none⟩) (len + 1) (c + 1), .int .i64 ((len : Int) + 1), .bool false, .slice (some ⟨g, off, none⟩) (len + 1) (c + 1), .pointer (some ⟨g, off, none⟩), .int .u8 x, .bool false, .tuple #[.int .u64 (n : Int), .slice p1 rl c1, .int .i64 0], .slice (some ⟨g, off, none⟩) (len + 1) (c + 1), .slice (some ⟨g, off + 1, none⟩) len c, .tuple #[.int .u64 (n : Int), .slice p1 rl c1, .int .i64 0], .int .u64 (n : Int), .slice p1 rl c1, .int .i64 0, .bool false, .int .i64 0, .bool false, undef, .bool (decide (4194304 < (n : Int))), .int .u64 (n : Int), .bool (decide (4194304 < (n : Int))), .bool (decide ((rl : Int) < (n : Int) + 8)), .slice p1 rl c1, .int .i64 (rl : Int), .int .u64 (n : Int), .int .i64 (n : Int), .int .i64 ((n : Int) + 8), .bool (decide ((rl : Int) < (n : Int) + 8)), .tuple #[v2, v3], .slice p1 rl c1, .int .u64 (n : Int), .int .i64 (n : Int), .tuple #[v2, v3], v2, v3, .tuple #[v4, .slice p5 m c5], v3, .tuple #[v4, .slice p5 m c5], v4, .slice p5 m c5, .slice (some ⟨g, off, none⟩) (len + 1) (c + 1), .int .i64 ((len : Int) + 1), .slice p5 m c5, .int .i64 (m : Int), .int .i64 ((N : Int) + 8), v4, .int .u64 A, .slice (some ⟨g, off, none⟩) (len + 1) (c + 1), .int .i64 ((N : Int) + 8), .int .i64 (N : Int), .slice (some ⟨g, off, none⟩) N (c + 1), .int .u64 A, .bool false, .slice (some ⟨g, off, none⟩) (len + 1) (c + 1), .pointer (some ⟨g, off, none⟩), .int .u8 x, .int .i64 x, v2, v6, .int .i64 ((N : Int) + 8)], defers := [] } W := by
      intro W acc v6 hb6
      rw [← hR]
      refine wpAnyIn_done (by kernel_rfl) ?_ _
      have hBw := hw3.trans (acc.mono hw3.size)
      clear acc
      go_wp2_with fail
      refine bodyPost_ret (v := .tuple #[.int .i64 x, v6, .int .i64 ((N : Int) + 8), .int .i64 0]) ?_ rfl ⟨⟨v6, by rw [Szf.out], hb6⟩, hBw⟩
      simp [results, Tryd.results5]
    have H11111111110 : ∀ (W : World) (acc : Below w3.heap.size w3 W) (v6 : Value) (hb6 : Bs W v6 BD), R 1 #[true, true, true, true, true, true, true, true, true, true, false] { tmps := #[.slice (some ⟨g, off, none⟩) (len + 1) (c + 1), undef, .int .i64 x, v6, .int .i64 ((N : Int) + 8), .int .i64 0, .int .u64 (n : Int), .slice p5 m c5, v4, .slice (some ⟨g, off, none⟩) (len + 1) (c + 1), .int .i64 ((len : Int) + 1), .bool false, .slice (some ⟨g, off, none⟩) (len + 1) (c + 1), .pointer (some ⟨g, off, none⟩), .int .u8 x, .bool false, .tuple #[.int .u64 (n : Int), .slice p1 rl c1, .int .i64 0], .slice (some ⟨g, off, none⟩) (len + 1) (c + 1), .slice (some ⟨g, off + 1, none⟩) len c, .tuple #[.int .u64 (n : Int), .slice p1 rl c1, .int .i64 0], .int .u64 (n : Int), .slice p1 rl c1, .int .i64 0, .bool false, .int .i64 0, .bool false, undef, .bool (decide (4194304 < (n : Int))), .int .u64 (n : Int), .bool (decide (4194304 < (n : Int))), .bool (decide ((rl : Int) < (n : Int) + 8)), .slice p1 rl c1, .int .i64 (rl : Int), .int .u64 (n : Int), .int .i64 (n : Int), .int .i64 ((n : Int) + 8), .bool (decide ((rl : Int) < (n : Int) + 8)), .tuple #[v2, v3], .slice p1 rl c1, .int .u64 (n : Int), .int .i64 (n : Int), .tuple #[v2, v3], v2, v3, .tuple #[v4, .slice p5 m c5], v3, .tuple #[v4, .slice p5 m c5], v4, .slice p5 m c5, .slice (some ⟨g, off, none⟩) (len + 1) (c + 1), .int .i64 ((len : Int) + 1), .slice p5 m c5, .int .i64 (m : Int), .int .i64 ((N : Int) + 8), v4, .int .u64 A, .slice (some ⟨g, off, none⟩) (len + 1) (c + 1), .int .i64 ((N : Int) + 8), .int .i64 (N : Int), .slice (some ⟨g, off, none⟩) N (c + 1), .int .u64 A, .bool false, .slice (some ⟨g, off, none⟩) (len + 1) (c + 1), .pointer (some ⟨g, off, none⟩), .int .u8 x, .int .i64 x, v2, v6, .int .i64 ((N : Int) + 8)], defers := [] } W := by
      intro W acc v6 hb6
      rw [← hR]
      have hcl := (acc.cell (p := ⟨g, off, none⟩) ltg).trans hcw
      refine wpAnyIn_ready (rs := [10]) (by kernel_rfl) (by simp) ?_
      refine AllReadyIn.cons rfl (fun K hK => ?_) ?_
      · go_simp
        refine hK _ _ ?_
        have h := H11111111111 W acc v6 hb6
        rw [← hR] at h
        exact h
      exact AllReadyIn.nil
    have H11111111100 : ∀ (W : World) (acc : Below w3.heap.size w3 W) (v6 : Value) (hb6 : Bs W v6 BD), R 2 #[true, true, true, true, true, true, true, true, true, false, false] { tmps := #[.slice (some ⟨g, off, none⟩) (len + 1) (c + 1), undef, .int .i64 x, v6, .int .i64 ((N : Int) + 8), .int .i64 0, .int .u64 (n : Int), .slice p5 m c5, v4, .slice (some ⟨g, off, none⟩) (len + 1) (c + 1), .int .i64 ((len : Int) + 1), .bool false, .slice (some ⟨g, off, none⟩) (len + 1) (c + 1), .pointer (some ⟨g, off, none⟩), .int .u8 x, .bool false, .tuple #[.int .u64 (n : Int), .slice p1 rl c1, .int .i64 0], .slice (some ⟨g, off, none⟩) (len + 1) (c + 1), .slice (some ⟨g, off + 1, none⟩) len c, .tuple #[.int .u64 (n : Int), .slice p1 rl c1, .int .i64 0], .int .u64 (n : Int), .slice p1 rl c1, .int .i64 0, .bool false, .int .i64 0, .bool false, undef, .bool (decide (4194304 < (n : Int))), .int .u64 (n : Int), .bool (decide (4194304 < (n : Int))), .bool (decide ((rl : Int) < (n : Int) + 8)), .slice p1 rl c1, .int .i64 (rl : Int), .int .u64 (n : Int), .int .i64 (n : Int), .int .i64 ((n : Int) + 8), .bool (decide ((rl : Int) < (n : Int) + 8)), .tuple #[v2, v3], .slice p1 rl c1, .int .u64 (n : Int), .int .i64 (n : Int), .tuple #[v2, v3], v2, v3, .tuple #[v4, .slice p5 m c5], v3, .tuple #[v4, .slice p5 m c5], v4, .slice p5 m c5, .slice (some ⟨g, off, none⟩) (len + 1) (c + 1), .int .i64 ((len : Int) + 1), .slice p5 m c5, .int .i64 (m : Int), .int .i64 ((N : Int) + 8), v4, .int .u64 A, .slice (some ⟨g, off, none⟩) (len + 1) (c + 1), .int .i64 ((N : Int) + 8), .int .i64 (N : Int), .slice (some ⟨g, off, none⟩) N (c + 1), .int .u64 A, .bool false, .slice (some ⟨g, off, none⟩) (len + 1) (c + 1), .pointer (some ⟨g, off, none⟩), .int .u8 x, .int .i64 x, v2, v6, .int .i64 ((N : Int) + 8)], defers := [] } W := by
      intro W acc v6 hb6
      rw [← hR]
      have hcl := (acc.cell (p := ⟨g, off, none⟩) ltg).trans hcw
      refine wpAnyIn_ready (rs := [9]) (by kernel_rfl) (by simp) ?_
      refine AllReadyIn.cons rfl (fun K hK => ?_) ?_
      · go_simp
        refine hK _ _ ?_
        have h := H11111111110 W acc v6 hb6
        rw [← hR] at h
        exact h
      exact AllReadyIn.nil
    have H11111111000 : ∀ (W : World) (acc : Below w3.heap.size w3 W) (v6 : Value) (hb6 : Bs W v6 BD), R 3 #[true, true, true, true, true, true, true, true, false, false, false] { tmps := #[.slice (some ⟨g, off, none⟩) (len + 1) (c + 1), undef, .int .i64 x, v2, .int .i64 ((N : Int) + 8), .int .i64 0, .int .u64 (n : Int), .slice p5 m c5, v4, .slice (some ⟨g, off, none⟩) (len + 1) (c + 1), .int .i64 ((len : Int) + 1), .bool false, .slice (some ⟨g, off, none⟩) (len + 1) (c + 1), .pointer (some ⟨g, off, none⟩), .int .u8 x, .bool false, .tuple #[.int .u64 (n : Int), .slice p1 rl c1, .int .i64 0], .slice (some ⟨g, off, none⟩) (len + 1) (c + 1), .slice (some ⟨g, off + 1, none⟩) len c, .tuple #[.int .u64 (n : Int), .slice p1 rl c1, .int .i64 0], .int .u64 (n : Int), .slice p1 rl c1, .int .i64 0, .bool false, .int .i64 0, .bool false, undef, .bool (decide (4194304 < (n : Int))), .int .u64 (n : Int), .bool (decide (4194304 < (n : Int))), .bool (decide ((rl : Int) < (n : Int) + 8)), .slice p1 rl c1, .int .i64 (rl : Int), .int .u64 (n : Int), .int .i64 (n : Int), .int .i64 ((n : Int) + 8), .bool (decide ((rl : Int) < (n : Int) + 8)), .tuple #[v2, v3], .slice p1 rl c1, .int .u64 (n : Int), .int .i64 (n : Int), .tuple #[v2, v3], v2, v3, .tuple #[v4, .slice p5 m c5], v3, .tuple #[v4, .slice p5 m c5], v4, .slice p5 m c5, .slice (some ⟨g, off, none⟩) (len + 1) (c + 1), .int .i64 ((len : Int) + 1), .slice p5 m c5, .int .i64 (m : Int), .int .i64 ((N : Int) + 8), v4, .int .u64 A, .slice (some ⟨g, off, none⟩) (len + 1) (c + 1), .int .i64 ((N : Int) + 8), .int .i64 (N : Int), .slice (some ⟨g, off, none⟩) N (c + 1), .int .u64 A, .bool false, .slice (some ⟨g, off, none⟩) (len + 1) (c + 1), .pointer (some ⟨g, off, none⟩), .int .u8 x, .int .i64 x, v2, v6, .int .i64 ((N : Int) + 8)], defers := [] } W := by
      intro W acc v6 hb6
      rw [← hR]
      have hcl := (acc.cell (p := ⟨g, off, none⟩) ltg).trans hcw
      refine wpAnyIn_ready (rs := [8]) (by kernel_rfl) (by simp) ?_
      refine AllReadyIn.cons rfl (fun K hK => ?_) ?_
      · go_simp
        refine hK _ _ ?_
        have h := H11111111100 W acc v6 hb6
        rw [← hR] at h
        exact h
      exact AllReadyIn.nil
    have H11111110000 : ∀ (W : World) (acc : Below w3.heap.size w3 W) (v6 : Value) (hb6 : Bs W v6 BD), R 4 #[true, true, true, true, true, true, true, false, false, false, false] { tmps := #[.slice (some ⟨g, off, none⟩) (len + 1) (c + 1), undef, .int .i64 0, v2, .int .i64 ((N : Int) + 8), .int .i64 0, .int .u64 (n : Int), .slice p5 m c5, v4, .slice (some ⟨g, off, none⟩) (len + 1) (c + 1), .int .i64 ((len : Int) + 1), .bool false, .slice (some ⟨g, off, none⟩) (len + 1) (c + 1), .pointer (some ⟨g, off, none⟩), .int .u8 x, .bool false, .tuple #[.int .u64 (n : Int), .slice p1 rl c1, .int .i64 0], .slice (some ⟨g, off, none⟩) (len + 1) (c + 1), .slice (some ⟨g, off + 1, none⟩) len c, .tuple #[.int .u64 (n : Int), .slice p1 rl c1, .int .i64 0], .int .u64 (n : Int), .slice p1 rl c1, .int .i64 0, .bool false, .int .i64 0, .bool false, undef, .bool (decide (4194304 < (n : Int))), .int .u64 (n : Int), .bool (decide (4194304 < (n : Int))), .bool (decide ((rl : Int) < (n : Int) + 8)), .slice p1 rl c1, .int .i64 (rl : Int), .int .u64 (n : Int), .int .i64 (n : Int), .int .i64 ((n : Int) + 8), .bool (decide ((rl : Int) < (n : Int) + 8)), .tuple #[v2, v3], .slice p1 rl c1, .int .u64 (n : Int), .int .i64 (n : Int), .tuple #[v2, v3], v2, v3, .tuple #[v4, .slice p5 m c5], v3, .tuple #[v4, .slice p5 m c5], v4, .slice p5 m c5, .slice (some ⟨g, off, none⟩) (len + 1) (c + 1), .int .i64 ((len : Int) + 1), .slice p5 m c5, .int .i64 (m : Int), .int .i64 ((N : Int) + 8), v4, .int .u64 A, .slice (some ⟨g, off, none⟩) (len + 1) (c + 1), .int .i64 ((N : Int) + 8), .int .i64 (N : Int), .slice (some ⟨g, off, none⟩) N (c + 1), .int .u64 A, .bool false, .slice (some ⟨g, off, none⟩) (len + 1) (c + 1), .pointer (some ⟨g, off, none⟩), .int .u8 x, .int .i64 x, v2, v6, .int .i64 ((N : Int) + 8)], defers := [] } W := by
      intro W acc v6 hb6
      rw [← hR]
      have hcl := (acc.cell (p := ⟨g, off, none⟩) ltg).trans hcw
      refine wpAnyIn_ready (rs := [7]) (by kernel_rfl) (by simp) ?_
      refine AllReadyIn.cons rfl (fun K hK => ?_) ?_
      · go_simp
        refine hK _ _ ?_
        have h := H11111111000 W acc v6 hb6
        rw [← hR] at h
        exact h
      exact AllReadyIn.nil
    have H11111101100 : ∀ (W : World) (acc : Below w3.heap.size w3 W) (v6 : Value) (hb6 : Bs W v6 BD), R 3 #[true, true, true, true, true, true, false, true, true, false, false] { tmps := #[.slice (some ⟨g, off, none⟩) (len + 1) (c + 1), undef, .int .i64 x, v6, .int .i64 ((N : Int) + 8), .int .i64 0, .int .u64 (n : Int), .slice p5 m c5, v4, .slice (some ⟨g, off, none⟩) (len + 1) (c + 1), .int .i64 ((len : Int) + 1), .bool false, .slice (some ⟨g, off, none⟩) (len + 1) (c + 1), .pointer (some ⟨g, off, none⟩), .int .u8 x, .bool false, .tuple #[.int .u64 (n : Int), .slice p1 rl c1, .int .i64 0], .slice (some ⟨g, off, none⟩) (len + 1) (c + 1), .slice (some ⟨g, off + 1, none⟩) len c, .tuple #[.int .u64 (n : Int), .slice p1 rl c1, .int .i64 0], .int .u64 (n : Int), .slice p1 rl c1, .int .i64 0, .bool false, .int .i64 0, .bool false, undef, .bool (decide (4194304 < (n : Int))), .int .u64 (n : Int), .bool (decide (4194304 < (n : Int))), .bool (decide ((rl : Int) < (n : Int) + 8)), .slice p1 rl c1, .int .i64 (rl : Int), .int .u64 (n : Int), .int .i64 (n : Int), .int .i64 ((n : Int) + 8), .bool (decide ((rl : Int) < (n : Int) + 8)), .tuple #[v2, v3], .slice p1 rl c1, .int .u64 (n : Int), .int .i64 (n : Int), .tuple #[v2, v3], v2, v3, .tuple #[v4, .slice p5 m c5], v3, .tuple #[v4, .slice p5 m c5], v4, .slice p5 m c5, .slice (some ⟨g, off, none⟩) (len + 1) (c + 1), .int .i64 ((len : Int) + 1), .slice p5 m c5, .int .i64 (m : Int), .int .i64 ((N : Int) + 8), v4, .int .u64 A, .slice (some ⟨g, off, none⟩) (len + 1) (c + 1), .int .i64 ((N : Int) + 8), .int .i64 (N : Int), .slice (some ⟨g, off, none⟩) N (c + 1), .int .u64 A, .bool false, .slice (some ⟨g, off, none⟩) (len + 1) (c + 1), .pointer (some ⟨g, off, none⟩), .int .u8 x, .int .i64 x, v2, v6, undef], defers := [] } W := by
      intro W acc v6 hb6
      rw [← hR]
      have hcl := (acc.cell (p := ⟨g, off, none⟩) ltg).trans hcw
      refine wpAnyIn_ready (rs := [6]) (by kernel_rfl) (by simp) ?_
      refine AllReadyIn.cons rfl (fun K hK => ?_) ?_
      · go_simp
        refine hK _ _ ?_
        have h := H11111111100 W acc v6 hb6
        rw [← hR] at h
        exact h
      exact AllReadyIn.nil
    have H11111101000 : ∀ (W : World) (acc : Below w3.heap.size w3 W) (v6 : Value) (hb6 : Bs W v6 BD), R 4 #[true, true, true, true, true, true, false, true, false, false, false] { tmps := #[.slice (some ⟨g, off, none⟩) (len + 1) (c + 1), undef, .int .i64 x, v2, .int .i64 ((N : Int) + 8), .int .i64 0, .int .u64 (n : Int), .slice p5 m c5, v4, .slice (some ⟨g, off, none⟩) (len + 1) (c + 1), .int .i64 ((len : Int) + 1), .bool false, .slice (some ⟨g, off, none⟩) (len + 1) (c + 1), .pointer (some ⟨g, off, none⟩), .int .u8 x, .bool false, .tuple #[.int .u64 (n : Int), .slice p1 rl c1, .int .i64 0], .slice (some ⟨g, off, none⟩) (len + 1) (c + 1), .slice (some ⟨g, off + 1, none⟩) len c, .tuple #[.int .u64 (n : Int), .slice p1 rl c1, .int .i64 0], .int .u64 (n : Int), .slice p1 rl c1, .int .i64 0, .bool false, .int .i64 0, .bool false, undef, .bool (decide (4194304 < (n : Int))), .int .u64 (n : Int), .bool (decide (4194304 < (n : Int))), .bool (decide ((rl : Int) < (n : Int) + 8)), .slice p1 rl c1, .int .i64 (rl : Int), .int .u64 (n : Int), .int .i64 (n : Int), .int .i64 ((n : Int) + 8), .bool (decide ((rl : Int) < (n : Int) + 8)), .tuple #[v2, v3], .slice p1 rl c1, .int .u64 (n : Int), .int .i64 (n : Int), .tuple #[v2, v3], v2, v3, .tuple #[v4, .slice p5 m c5], v3, .tuple #[v4, .slice p5 m c5], v4, .slice p5 m c5, .slice (some ⟨g, off, none⟩) (len + 1) (c + 1), .int .i64 ((len : Int) + 1), .slice p5 m c5, .int .i64 (m : Int), .int .i64 ((N : Int) + 8), v4, .int .u64 A, .slice (some ⟨g, off, none⟩) (len + 1) (c + 1), .int .i64 ((N : Int) + 8), .int .i64 (N : Int), .slice (some ⟨g, off, none⟩) N (c + 1), .int .u64 A, .bool false, .slice (some ⟨g, off, none⟩) (len + 1) (c + 1), .pointer (some ⟨g, off, none⟩), .int .u8 x, .int .i64 x, v2, v6, undef], defers := [] } W := by
      intro W acc v6 hb6
      rw [← hR]
      have hcl := (acc.cell (p := ⟨g, off, none⟩) ltg).trans hcw
      refine wpAnyIn_ready (rs := [6, 8]) (by kernel_rfl) (by simp) ?_
      refine AllReadyIn.cons rfl (fun K hK => ?_) ?_
      · go_simp
        refine hK _ _ ?_
        have h := H11111111000 W acc v6 hb6
        rw [← hR] at h
        exact h
      refine AllReadyIn.cons rfl (fun K hK => ?_) ?_
      · go_simp
        refine hK _ _ ?_
        have h := H11111101100 W acc v6 hb6
        rw [← hR] at h
        exact h
      exact AllReadyIn.nil
    have H11111100000 : ∀ (W : World) (acc : Below w3.heap.size w3 W) (v6 : Value) (hb6 : Bs W v6 BD), R 5 #[true, true, true, true, true, true, false, false, false, false, false] { tmps := #[.slice (some ⟨g, off, none⟩) (len + 1) (c + 1), undef, .int .i64 0, v2, .int .i64 ((N : Int) + 8), .int .i64 0, .int .u64 (n : Int), .slice p5 m c5, v4, .slice (some ⟨g, off, none⟩) (len + 1) (c + 1), .int .i64 ((len : Int) + 1), .bool false, .slice (some ⟨g, off, none⟩) (len + 1) (c + 1), .pointer (some ⟨g, off, none⟩), .int .u8 x, .bool false, .tuple #[.int .u64 (n : Int), .slice p1 rl c1, .int .i64 0], .slice (some ⟨g, off, none⟩) (len + 1) (c + 1), .slice (some ⟨g, off + 1, none⟩) len c, .tuple #[.int .u64 (n : Int), .slice p1 rl c1, .int .i64 0], .int .u64 (n : Int), .slice p1 rl c1, .int .i64 0, .bool false, .int .i64 0, .bool false, undef, .bool (decide (4194304 < (n : Int))), .int .u64 (n : Int), .bool (decide (4194304 < (n : Int))), .bool (decide ((rl : Int) < (n : Int) + 8)), .slice p1 rl c1, .int .i64 (rl : Int), .int .u64 (n : Int), .int .i64 (n : Int), .int .i64 ((n : Int) + 8), .bool (decide ((rl : Int) < (n : Int) + 8)), .tuple #[v2, v3], .slice p1 rl c1, .int .u64 (n : Int), .int .i64 (n : Int), .tuple #[v2, v3], v2, v3, .tuple #[v4, .slice p5 m c5], v3, .tuple #[v4, .slice p5 m c5], v4, .slice p5 m c5, .slice (some ⟨g, off, none⟩) (len + 1) (c + 1), .int .i64 ((len : Int) + 1), .slice p5 m c5, .int .i64 (m : Int), .int .i64 ((N : Int) + 8), v4, .int .u64 A, .slice (some ⟨g, off, none⟩) (len + 1) (c + 1), .int .i64 ((N : Int) + 8), .int .i64 (N : Int), .slice (some ⟨g, off, none⟩) N (c + 1), .int .u64 A, .bool false, .slice (some ⟨g, off, none⟩) (len + 1) (c + 1), .pointer (some ⟨g, off, none⟩), .int .u8 x, .int .i64 x, v2, v6, undef], defers := [] } W := by
      intro W acc v6 hb6
      rw [← hR]
      have hcl := (acc.cell (p := ⟨g, off, none⟩) ltg).trans hcw
      refine wpAnyIn_ready (rs := [6, 7]) (by kernel_rfl) (by simp) ?_
      refine AllReadyIn.cons rfl (fun K hK => ?_) ?_
      · go_simp
        refine hK _ _ ?_
        have h := H11111110000 W acc v6 hb6
        rw [← hR] at h
        exact h
      refine AllReadyIn.cons rfl (fun K hK => ?_) ?_
      · go_simp
        refine hK _ _ ?_
        have h := H11111101000 W acc v6 hb6
        rw [← hR] at h
        exact h
      exact AllReadyIn.nil
    have H11111010000 : ∀ (W : World) (acc : Below w3.heap.size w3 W), R 5 #[true, true, true, true, true, false, true, false, false, false, false] { tmps := #[.slice (some ⟨g, off, none⟩) (len + 1) (c + 1), undef, .int .i64 0, v2, .int .i64 ((N : Int) + 8), .int .i64 0, .int .u64 (n : Int), .slice p5 m c5, v4, .slice (some ⟨g, off, none⟩) (len + 1) (c + 1), .int .i64 ((len : Int) + 1), .bool false, .slice (some ⟨g, off, none⟩) (len + 1) (c + 1), .pointer (some ⟨g, off, none⟩), .int .u8 x, .bool false, .tuple #[.int .u64 (n : Int), .slice p1 rl c1, .int .i64 0], .slice (some ⟨g, off, none⟩) (len + 1) (c + 1), .slice (some ⟨g, off + 1, none⟩) len c, .tuple #[.int .u64 (n : Int), .slice p1 rl c1, .int .i64 0], .int .u64 (n : Int), .slice p1 rl c1, .int .i64 0, .bool false, .int .i64 0, .bool false, undef, .bool (decide (4194304 < (n : Int))), .int .u64 (n : Int), .bool (decide (4194304 < (n : Int))), .bool (decide ((rl : Int) < (n : Int) + 8)), .slice p1 rl c1, .int .i64 (rl : Int), .int .u64 (n : Int), .int .i64 (n : Int), .int .i64 ((n : Int) + 8), .bool (decide ((rl : Int) < (n : Int) + 8)), .tuple #[v2, v3], .slice p1 rl c1, .int .u64 (n : Int), .int .i64 (n : Int), .tuple #[v2, v3], v2, v3, .tuple #[v4, .slice p5 m c5], v3, .tuple #[v4, .slice p5 m c5], v4, .slice p5 m c5, .slice (some ⟨g, off, none⟩) (len + 1) (c + 1), .int .i64 ((len : Int) + 1), .slice p5 m c5, .int .i64 (m : Int), .int .i64 ((N : Int) + 8), v4, .int .u64 A, .slice (some ⟨g, off, none⟩) (len + 1) (c + 1), .int .i64 ((N : Int) + 8), .int .i64 (N : Int), .slice (some ⟨g, off, none⟩) N (c + 1), .int .u64 A, .bool false, .slice (some ⟨g, off, none⟩) (len + 1) (c + 1), .pointer (some ⟨g, off, none⟩), .int .u8 x, .int .i64 x, v2, undef, .int .i64 ((N : Int) + 8)], defers := [] } W := by
      intro W acc
      rw [← hR]
      have hcl := (acc.cell (p := ⟨g, off, none⟩) ltg).trans hcw
      refine wpAnyIn_ready (rs := [5]) (by kernel_rfl) (by simp) ?_
      refine AllReadyIn.cons rfl (fun K hK => ?_) ?_
      · go_simp
        gi_wp2_with (refine ⟨trivial, ?_⟩; gi_at_call 20; refine (callsIn_wide.2 (tl W (hv2.below acc))).mono ?_; rintro e W2 ⟨v6, rfl, hb6, hb⟩; skip)
        have h := H11111110000 W2 (below_accO acc acc.size hb) v6 hb6
        rw [← hR] at h
        exact h
      exact AllReadyIn.nil
    have H11111000000 : ∀ (W : World) (acc : Below w3.heap.size w3 W), R 6 #[true, true, true, true, true, false, false, false, false, false, false] { tmps := #[.slice (some ⟨g, off, none⟩) (len + 1) (c + 1), undef, .int .i64 0, v2, .int .i64 ((N : Int) + 8), .int .i64 0, .int .u64 (n : Int), .slice p5 m c5, v4, .slice (some ⟨g, off, none⟩) (len + 1) (c + 1), .int .i64 ((len : Int) + 1), .bool false, .slice (some ⟨g, off, none⟩) (len + 1) (c + 1), .pointer (some ⟨g, off, none⟩), .int .u8 x, .bool false, .tuple #[.int .u64 (n : Int), .slice p1 rl c1, .int .i64 0], .slice (some ⟨g, off, none⟩) (len + 1) (c + 1), .slice (some ⟨g, off + 1, none⟩) len c, .tuple #[.int .u64 (n : Int), .slice p1 rl c1, .int .i64 0], .int .u64 (n : Int), .slice p1 rl c1, .int .i64 0, .bool false, .int .i64 0, .bool false, undef, .bool (decide (4194304 < (n : Int))), .int .u64 (n : Int), .bool (decide (4194304 < (n : Int))), .bool (decide ((rl : Int) < (n : Int) + 8)), .slice p1 rl c1, .int .i64 (rl : Int), .int .u64 (n : Int), .int .i64 (n : Int), .int .i64 ((n : Int) + 8), .bool (decide ((rl : Int) < (n : Int) + 8)), .tuple #[v2, v3], .slice p1 rl c1, .int .u64 (n : Int), .int .i64 (n : Int), .tuple #[v2, v3], v2, v3, .tuple #[v4, .slice p5 m c5], v3, .tuple #[v4, .slice p5 m c5], v4, .slice p5 m c5, .slice (some ⟨g, off, none⟩) (len + 1) (c + 1), .int .i64 ((len : Int) + 1), .slice p5 m c5, .int .i64 (m : Int), .int .i64 ((N : Int) + 8), v4, .int .u64 A, .slice (some ⟨g, off, none⟩) (len + 1) (c + 1), .int .i64 ((N : Int) + 8), .int .i64 (N : Int), .slice (some ⟨g, off, none⟩) N (c + 1), .int .u64 A, .bool false, .slice (some ⟨g, off, none⟩) (len + 1) (c + 1), .pointer (some ⟨g, off, none⟩), .int .u8 x, .int .i64 x, v2, undef, undef], defers := [] } W := by
      intro W acc
      rw [← hR]
      have hcl := (acc.cell (p := ⟨g, off, none⟩) ltg).trans hcw
      refine wpAnyIn_ready (rs := [5, 6]) (by kernel_rfl) (by simp) ?_
      refine AllReadyIn.cons rfl (fun K hK => ?_) ?_
      · go_simp
        gi_wp2_with (refine ⟨trivial, ?_⟩; gi_at_call 20; refine (callsIn_wide.2 (tl W (hv2.below acc))).mono ?_; rintro e W2 ⟨v6, rfl, hb6, hb⟩; skip)
        have h := H11111100000 W2 (below_accO acc acc.size hb) v6 hb6
        rw [← hR] at h
        exact h
      refine AllReadyIn.cons rfl (fun K hK => ?_) ?_
      · go_simp
        refine hK _ _ ?_
        have h := H11111010000 W acc
        rw [← hR] at h
        exact h
      exact AllReadyIn.nil
    have H11110010000 : ∀ (W : World) (acc : Below w3.heap.size w3 W), R 6 #[true, true, true, true, false, false, true, false, false, false, false] { tmps := #[.slice (some ⟨g, off, none⟩) (len + 1) (c + 1), undef, .int .i64 0, v2, .int .i64 ((N : Int) + 8), .int .i64 0, .int .u64 (n : Int), .slice p5 m c5, v4, .slice (some ⟨g, off, none⟩) (len + 1) (c + 1), .int .i64 ((len : Int) + 1), .bool false, .slice (some ⟨g, off, none⟩) (len + 1) (c + 1), .pointer (some ⟨g, off, none⟩), .int .u8 x, .bool false, .tuple #[.int .u64 (n : Int), .slice p1 rl c1, .int .i64 0], .slice (some ⟨g, off, none⟩) (len + 1) (c + 1), .slice (some ⟨g, off + 1, none⟩) len c, .tuple #[.int .u64 (n : Int), .slice p1 rl c1, .int .i64 0], .int .u64 (n : Int), .slice p1 rl c1, .int .i64 0, .bool false, .int .i64 0, .bool false, undef, .bool (decide (4194304 < (n : Int))), .int .u64 (n : Int), .bool (decide (4194304 < (n : Int))), .bool (decide ((rl : Int) < (n : Int) + 8)), .slice p1 rl c1, .int .i64 (rl : Int), .int .u64 (n : Int), .int .i64 (n : Int), .int .i64 ((n : Int) + 8), .bool (decide ((rl : Int) < (n : Int) + 8)), .tuple #[v2, v3], .slice p1 rl c1, .int .u64 (n : Int), .int .i64 (n : Int), .tuple #[v2, v3], v2, v3, .tuple #[v4, .slice p5 m c5], v3, .tuple #[v4, .slice p5 m c5], v4, .slice p5 m c5, .slice (some ⟨g, off, none⟩) (len + 1) (c + 1), .int .i64 ((len : Int) + 1), .slice p5 m c5, .int .i64 (m : Int), .int .i64 ((N : Int) + 8), v4, .int .u64 A, .slice (some ⟨g, off, none⟩) (len + 1) (c + 1), .int .i64 ((N : Int) + 8), .int .i64 (N : Int), .slice (some ⟨g, off, none⟩) N (c + 1), .int .u64 A, .bool false, .slice (some ⟨g, off, none⟩) (len + 1) (c + 1), .pointer (some ⟨g, off, none⟩), .int .u8 x, .int .i64 x, undef, undef, .int .i64 ((N : Int) + 8)], defers := [] } W := by
      intro W acc
      rw [← hR]
      have hcl := (acc.cell (p := ⟨g, off, none⟩) ltg).trans hcw
      refine wpAnyIn_ready (rs := [4]) (by kernel_rfl) (by simp) ?_
      refine AllReadyIn.cons rfl (fun K hK => ?_) ?_
      · go_simp
        refine hK _ _ ?_
        have h := H11111010000 W acc
        rw [← hR] at h
        exact h
      exact AllReadyIn.nil
    have H11110000000 : ∀ (W : World) (acc : Below w3.heap.size w3 W), R 7 #[true, true, true, true, false, false, false, false, false, false, false] { tmps := #[.slice (some ⟨g, off, none⟩) (len + 1) (c + 1), undef, .int .i64 0, v2, .int .i64 ((N : Int) + 8), .int .i64 0, .int .u64 (n : Int), .slice p5 m c5, v4, .slice (some ⟨g, off, none⟩) (len + 1) (c + 1), .int .i64 ((len : Int) + 1), .bool false, .slice (some ⟨g, off, none⟩) (len + 1) (c + 1), .pointer (some ⟨g, off, none⟩), .int .u8 x, .bool false, .tuple #[.int .u64 (n : Int), .slice p1 rl c1, .int .i64 0], .slice (some ⟨g, off, none⟩) (len + 1) (c + 1), .slice (some ⟨g, off + 1, none⟩) len c, .tuple #[.int .u64 (n : Int), .slice p1 rl c1, .int .i64 0], .int .u64 (n : Int), .slice p1 rl c1, .int .i64 0, .bool false, .int .i64 0, .bool false, undef, .bool (decide (4194304 < (n : Int))), .int .u64 (n : Int), .bool (decide (4194304 < (n : Int))), .bool (decide ((rl : Int) < (n : Int) + 8)), .slice p1 rl c1, .int .i64 (rl : Int), .int .u64 (n : Int), .int .i64 (n : Int), .int .i64 ((n : Int) + 8), .bool (decide ((rl : Int) < (n : Int) + 8)), .tuple #[v2, v3], .slice p1 rl c1, .int .u64 (n : Int), .int .i64 (n : Int), .tuple #[v2, v3], v2, v3, .tuple #[v4, .slice p5 m c5], v3, .tuple #[v4, .slice p5 m c5], v4, .slice p5 m c5, .slice (some ⟨g, off, none⟩) (len + 1) (c + 1), .int .i64 ((len : Int) + 1), .slice p5 m c5, .int .i64 (m : Int), .int .i64 ((N : Int) + 8), v4, .int .u64 A, .slice (some ⟨g, off, none⟩) (len + 1) (c + 1), .int .i64 ((N : Int) + 8), .int .i64 (N : Int), .slice (some ⟨g, off, none⟩) N (c + 1), .int .u64 A, .bool false, .slice (some ⟨g, off, none⟩) (len + 1) (c + 1), .pointer (some ⟨g, off, none⟩), .int .u8 x, .int .i64 x, undef, undef, undef], defers := [] } W := by
      intro W acc
      rw [← hR]
      have hcl := (acc.cell (p := ⟨g, off, none⟩) ltg).trans hcw
      refine wpAnyIn_ready (rs := [4, 6]) (by kernel_rfl) (by simp) ?_
      refine AllReadyIn.cons rfl (fun K hK => ?_) ?_
      · go_simp
        refine hK _ _ ?_
        have h := H11111000000 W acc
        rw [← hR] at h
        exact h
      refine AllReadyIn.cons rfl (fun K hK => ?_) ?_
      · go_simp
        refine hK _ _ ?_
        have h := H11110010000 W acc
        rw [← hR] at h
        exact h
      exact AllReadyIn.nil
    have H11101110000 : ∀ (W : World) (acc : Below w3.heap.size w3 W) (v6 : Value) (hb6 : Bs W v6 BD), R 5 #[true, true, true, false, true, true, true, false, false, false, false] { tmps := #[.slice (some ⟨g, off, none⟩) (len + 1) (c + 1), undef, .int .i64 0, v2, .int .i64 ((N : Int) + 8), .int .i64 0, .int .u64 (n : Int), .slice p5 m c5, v4, .slice (some ⟨g, off, none⟩) (len + 1) (c + 1), .int .i64 ((len : Int) + 1), .bool false, .slice (some ⟨g, off, none⟩) (len + 1) (c + 1), .pointer (some ⟨g, off, none⟩), .int .u8 x, .bool false, .tuple #[.int .u64 (n : Int), .slice p1 rl c1, .int .i64 0], .slice (some ⟨g, off, none⟩) (len + 1) (c + 1), .slice (some ⟨g, off + 1, none⟩) len c, .tuple #[.int .u64 (n : Int), .slice p1 rl c1, .int .i64 0], .int .u64 (n : Int), .slice p1 rl c1, .int .i64 0, .bool false, .int .i64 0, .bool false, undef, .bool (decide (4194304 < (n : Int))), .int .u64 (n : Int), .bool (decide (4194304 < (n : Int))), .bool (decide ((rl : Int) < (n : Int) + 8)), .slice p1 rl c1, .int .i64 (rl : Int), .int .u64 (n : Int), .int .i64 (n : Int), .int .i64 ((n : Int) + 8), .bool (decide ((rl : Int) < (n : Int) + 8)), .tuple #[v2, v3], .slice p1 rl c1, .int .u64 (n : Int), .int .i64 (n : Int), .tuple #[v2, v3], v2, v3, .tuple #[v4, .slice p5 m c5], v3, .tuple #[v4, .slice p5 m c5], v4, .slice p5 m c5, .slice (some ⟨g, off, none⟩) (len + 1) (c + 1), .int .i64 ((len : Int) + 1), .slice p5 m c5, .int .i64 (m : Int), .int .i64 ((N : Int) + 8), v4, .int .u64 A, .slice (some ⟨g, off, none⟩) (len + 1) (c + 1), .int .i64 ((N : Int) + 8), .int .i64 (N : Int), .slice (some ⟨g, off, none⟩) N (c + 1), .int .u64 A, .bool false, .slice (some ⟨g, off, none⟩) (len + 1) (c + 1), .pointer (some ⟨g, off, none⟩), .int .u8 x, undef, v2, v6, .int .i64 ((N : Int) + 8)], defers := [] } W := by
      intro W acc v6 hb6
      rw [← hR]
      have hcl := (acc.cell (p := ⟨g, off, none⟩) ltg).trans hcw
      refine wpAnyIn_ready (rs := [3]) (by kernel_rfl) (by simp) ?_
      refine AllReadyIn.cons rfl (fun K hK => ?_) ?_
      · go_simp
        refine hK _ _ ?_
        have h := H11111110000 W acc v6 hb6
        rw [← hR] at h
        exact h
      exact AllReadyIn.nil
    have H11101100000 : ∀ (W : World) (acc : Below w3.heap.size w3 W) (v6 : Value) (hb6 : Bs W v6 BD), R 6 #[true, true, true, false, true, true, false, false, false, false, false] { tmps := #[.slice (some ⟨g, off, none⟩) (len + 1) (c + 1), undef, .int .i64 0, v2, .int .i64 ((N : Int) + 8), .int .i64 0, .int .u64 (n : Int), .slice p5 m c5, v4, .slice (some ⟨g, off, none⟩) (len + 1) (c + 1), .int .i64 ((len : Int) + 1), .bool false, .slice (some ⟨g, off, none⟩) (len + 1) (c + 1), .pointer (some ⟨g, off, none⟩), .int .u8 x, .bool false, .tuple #[.int .u64 (n : Int), .slice p1 rl c1, .int .i64 0], .slice (some ⟨g, off, none⟩) (len + 1) (c + 1), .slice (some ⟨g, off + 1, none⟩) len c, .tuple #[.int .u64 (n : Int), .slice p1 rl c1, .int .i64 0], .int .u64 (n : Int), .slice p1 rl c1, .int .i64 0, .bool false, .int .i64 0, .bool false, undef, .bool (decide (4194304 < (n : Int))), .int .u64 (n : Int), .bool (decide (4194304 < (n : Int))), .bool (decide ((rl : Int) < (n : Int) + 8)), .slice p1 rl c1, .int .i64 (rl : Int), .int .u64 (n : Int), .int .i64 (n : Int), .int .i64 ((n : Int) + 8), .bool (decide ((rl : Int) < (n : Int) + 8)), .tuple #[v2, v3], .slice p1 rl c1, .int .u64 (n : Int), .int .i64 (n : Int), .tuple #[v2, v3], v2, v3, .tuple #[v4, .slice p5 m c5], v3, .tuple #[v4, .slice p5 m c5], v4, .slice p5 m c5, .slice (some ⟨g, off, none⟩) (len + 1) (c + 1), .int .i64 ((len : Int) + 1), .slice p5 m c5, .int .i64 (m : Int), .int .i64 ((N : Int) + 8), v4, .int .u64 A, .slice (some ⟨g, off, none⟩) (len + 1) (c + 1), .int .i64 ((N : Int) + 8), .int .i64 (N : Int), .slice (some ⟨g, off, none⟩) N (c + 1), .int .u64 A, .bool false, .slice (some ⟨g, off, none⟩) (len + 1) (c + 1), .pointer (some ⟨g, off, none⟩), .int .u8 x, undef, v2, v6, undef], defers := [] } W := by
      intro W acc v6 hb6
      rw [← hR]
      have hcl := (acc.cell (p := ⟨g, off, none⟩) ltg).trans hcw
      refine wpAnyIn_ready (rs := [3, 6]) (by kernel_rfl) (by simp) ?_
      refine AllReadyIn.cons rfl (fun K hK => ?_) ?_
      · go_simp
        refine hK _ _ ?_
        have h := H11111100000 W acc v6 hb6
        rw [← hR] at h
        exact h
      refine AllReadyIn.cons rfl (fun K hK => ?_) ?_
      · go_simp
        refine hK _ _ ?_
        have h := H11101110000 W acc v6 hb6
        rw [← hR] at h
        exact h
      exact AllReadyIn.nil
    have H11101010000 : ∀ (W : World) (acc : Below w3.heap.size w3 W), R 6 #[true, true, true, false, true, false, true, false, false, false, false] { tmps := #[.slice (some ⟨g, off, none⟩) (len + 1) (c + 1), undef, .int .i64 0, v2, .int .i64 ((N : Int) + 8), .int .i64 0, .int .u64 (n : Int), .slice p5 m c5, v4, .slice (some ⟨g, off, none⟩) (len + 1) (c + 1), .int .i64 ((len : Int) + 1), .bool false, .slice (some ⟨g, off, none⟩) (len + 1) (c + 1), .pointer (some ⟨g, off, none⟩), .int .u8 x, .bool false, .tuple #[.int .u64 (n : Int), .slice p1 rl c1, .int .i64 0], .slice (some ⟨g, off, none⟩) (len + 1) (c + 1), .slice (some ⟨g, off + 1, none⟩) len c, .tuple #[.int .u64 (n : Int), .slice p1 rl c1, .int .i64 0], .int .u64 (n : Int), .slice p1 rl c1, .int .i64 0, .bool false, .int .i64 0, .bool false, undef, .bool (decide (4194304 < (n : Int))), .int .u64 (n : Int), .bool (decide (4194304 < (n : Int))), .bool (decide ((rl : Int) < (n : Int) + 8)), .slice p1 rl c1, .int .i64 (rl : Int), .int .u64 (n : Int), .int .i64 (n : Int), .int .i64 ((n : Int) + 8), .bool (decide ((rl : Int) < (n : Int) + 8)), .tuple #[v2, v3], .slice p1 rl c1, .int .u64 (n : Int), .int .i64 (n : Int), .tuple #[v2, v3], v2, v3, .tuple #[v4, .slice p5 m c5], v3, .tuple #[v4, .slice p5 m c5], v4, .slice p5 m c5, .slice (some ⟨g, off, none⟩) (len + 1) (c + 1), .int .i64 ((len : Int) + 1), .slice p5 m c5, .int .i64 (m : Int), .int .i64 ((N : Int) + 8), v4, .int .u64 A, .slice (some ⟨g, off, none⟩) (len + 1) (c + 1), .int .i64 ((N : Int) + 8), .int .i64 (N : Int), .slice (some ⟨g, off, none⟩) N (c + 1), .int .u64 A, .bool false, .slice (some ⟨g, off, none⟩) (len + 1) (c + 1), .pointer (some ⟨g, off, none⟩), .int .u8 x, undef, v2, undef, .int .i64 ((N : Int) + 8)], defers := [] } W := by
      intro W acc
      rw [← hR]
      have hcl := (acc.cell (p := ⟨g, off, none⟩) ltg).trans hcw
      refine wpAnyIn_ready (rs := [3, 5]) (by kernel_rfl) (by simp) ?_
      refine AllReadyIn.cons rfl (fun K hK => ?_) ?_
      · go_simp
        refine hK _ _ ?_
        have h := H11111010000 W acc
        rw [← hR] at h
        exact h
      refine AllReadyIn.cons rfl (fun K hK => ?_) ?_
      · go_simp
        gi_wp2_with (refine ⟨trivial, ?_⟩; gi_at_call 20; refine (callsIn_wide.2 (tl W (hv2.below acc))).mono ?_; rintro e W2 ⟨v6, rfl, hb6, hb⟩; skip)
        have h := H11101110000 W2 (below_accO acc acc.size hb) v6 hb6
        rw [← hR] at h
        exact h
      exact AllReadyIn.nil
    have H11101000000 : ∀ (W : World) (acc : Below w3.heap.size w3 W), R 7 #[true, true, true, false, true, false, false, false, false, false, false] { tmps := #[.slice (some ⟨g, off, none⟩) (len + 1) (c + 1), undef, .int .i64 0, v2, .int .i64 ((N : Int) + 8), .int .i64 0, .int .u64 (n : Int), .slice p5 m c5, v4, .slice (some ⟨g, off, none⟩) (len + 1) (c + 1), .int .i64 ((len : Int) + 1), .bool false, .slice (some ⟨g, off, none⟩) (len + 1) (c + 1), .pointer (some ⟨g, off, none⟩), .int .u8 x, .bool false, .tuple #[.int .u64 (n : Int), .slice p1 rl c1, .int .i64 0], .slice (some ⟨g, off, none⟩) (len + 1) (c + 1), .slice (some ⟨g, off + 1, none⟩) len c, .tuple #[.int .u64 (n : Int), .slice p1 rl c1, .int .i64 0], .int .u64 (n : Int), .slice p1 rl c1, .int .i64 0, .bool false, .int .i64 0, .bool false, undef, .bool (decide (4194304 < (n : Int))), .int .u64 (n : Int), .bool (decide (4194304 < (n : Int))), .bool (decide ((rl : Int) < (n : Int) + 8)), .slice p1 rl c1, .int .i64 (rl : Int), .int .u64 (n : Int), .int .i64 (n : Int), .int .i64 ((n : Int) + 8), .bool (decide ((rl : Int) < (n : Int) + 8)), .tuple #[v2, v3], .slice p1 rl c1, .int .u64 (n : Int), .int .i64 (n : Int), .tuple #[v2, v3], v2, v3, .tuple #[v4, .slice p5 m c5], v3, .tuple #[v4, .slice p5 m c5], v4, .slice p5 m c5, .slice (some ⟨g, off, none⟩) (len + 1) (c + 1), .int .i64 ((len : Int) + 1), .slice p5 m c5, .int .i64 (m : Int), .int .i64 ((N : Int) + 8), v4, .int .u64 A, .slice (some ⟨g, off, none⟩) (len + 1) (c + 1), .int .i64 ((N : Int) + 8), .int .i64 (N : Int), .slice (some ⟨g, off, none⟩) N (c + 1), .int .u64 A, .bool false, .slice (some ⟨g, off, none⟩) (len + 1) (c + 1), .pointer (some ⟨g, off, none⟩), .int .u8 x, undef, v2, undef, undef], defers := [] } W := by
      intro W acc
      rw [← hR]
      have hcl := (acc.cell (p := ⟨g, off, none⟩) ltg).trans hcw
      refine wpAnyIn_ready (rs := [3, 5, 6]) (by kernel_rfl) (by simp) ?_
      refine AllReadyIn.cons rfl (fun K hK => ?_) ?_
      · go_simp
        refine hK _ _ ?_
        have h := H11111000000 W acc
        rw [← hR] at h
        exact h
      refine AllReadyIn.cons rfl (fun K hK => ?_) ?_
      · go_simp
        gi_wp2_with (refine ⟨trivial, ?_⟩; gi_at_call 20; refine (callsIn_wide.2 (tl W (hv2.below acc))).mono ?_; rintro e W2 ⟨v6, rfl, hb6, hb⟩; skip)
        have h := H11101100000 W2 (below_accO acc acc.size hb) v6 hb6
        rw [← hR] at h
        exact h
      refine AllReadyIn.cons rfl (fun K hK => ?_) ?_
      · go_simp
        refine hK _ _ ?_
        have h := H11101010000 W acc
        rw [← hR] at h
        exact h
      exact AllReadyIn.nil
    have H11100010000 : ∀ (W : World) (acc : Below w3.heap.size w3 W), R 7 #[true, true, true, false, false, false, true, false, false, false, false] { tmps := #[.slice (some ⟨g, off, none⟩) (len + 1) (c + 1), undef, .int .i64 0, v2, .int .i64 ((N : Int) + 8), .int .i64 0, .int .u64 (n : Int), .slice p5 m c5, v4, .slice (some ⟨g, off, none⟩) (len + 1) (c + 1), .int .i64 ((len : Int) + 1), .bool false, .slice (some ⟨g, off, none⟩) (len + 1) (c + 1), .pointer (some ⟨g, off, none⟩), .int .u8 x, .bool false, .tuple #[.int .u64 (n : Int), .slice p1 rl c1, .int .i64 0], .slice (some ⟨g, off, none⟩) (len + 1) (c + 1), .slice (some ⟨g, off + 1, none⟩) len c, .tuple #[.int .u64 (n : Int), .slice p1 rl c1, .int .i64 0], .int .u64 (n : Int), .slice p1 rl c1, .int .i64 0, .bool false, .int .i64 0, .bool false, undef, .bool (decide (4194304 < (n : Int))), .int .u64 (n : Int), .bool (decide (4194304 < (n : Int))), .bool (decide ((rl : Int) < (n : Int) + 8)), .slice p1 rl c1, .int .i64 (rl : Int), .int .u64 (n : Int), .int .i64 (n : Int), .int .i64 ((n : Int) + 8), .bool (decide ((rl : Int) < (n : Int) + 8)), .tuple #[v2, v3], .slice p1 rl c1, .int .u64 (n : Int), .int .i64 (n : Int), .tuple #[v2, v3], v2, v3, .tuple #[v4, .slice p5 m c5], v3, .tuple #[v4, .slice p5 m c5], v4, .slice p5 m c5, .slice (some ⟨g, off, none⟩) (len + 1) (c + 1), .int .i64 ((len : Int) + 1), .slice p5 m c5, .int .i64 (m : Int), .int .i64 ((N : Int) + 8), v4, .int .u64 A, .slice (some ⟨g, off, none⟩) (len + 1) (c + 1), .int .i64 ((N : Int) + 8), .int .i64 (N : Int), .slice (some ⟨g, off, none⟩) N (c + 1), .int .u64 A, .bool false, .slice (some ⟨g, off, none⟩) (len + 1) (c + 1), .pointer (some ⟨g, off, none⟩), .int .u8 x, undef, undef, undef, .int .i64 ((N : Int) + 8)], defers := [] } W := by
      intro W acc
      rw [← hR]
      have hcl := (acc.cell (p := ⟨g, off, none⟩) ltg).trans hcw
      refine wpAnyIn_ready (rs := [3, 4]) (by kernel_rfl) (by simp) ?_
      refine AllReadyIn.cons rfl (fun K hK => ?_) ?_
      · go_simp
        refine hK _ _ ?_
        have h := H11110010000 W acc
        rw [← hR] at h
        exact h
      refine AllReadyIn.cons rfl (fun K hK => ?_) ?_
      · go_simp
        refine hK _ _ ?_
        have h := H11101010000 W acc
        rw [← hR] at h
        exact h
      exact AllReadyIn.nil
    have H11100000000 : ∀ (W : World) (acc : Below w3.heap.size w3 W), R 8 #[true, true, true, false, false, false, false, false, false, false, false] { tmps := #[.slice (some ⟨g, off, none⟩) (len + 1) (c + 1), undef, .int .i64 0, v2, .int .i64 ((N : Int) + 8), .int .i64 0, .int .u64 (n : Int), .slice p5 m c5, v4, .slice (some ⟨g, off, none⟩) (len + 1) (c + 1), .int .i64 ((len : Int) + 1), .bool false, .slice (some ⟨g, off, none⟩) (len + 1) (c + 1), .pointer (some ⟨g, off, none⟩), .int .u8 x, .bool false, .tuple #[.int .u64 (n : Int), .slice p1 rl c1, .int .i64 0], .slice (some ⟨g, off, none⟩) (len + 1) (c + 1), .slice (some ⟨g, off + 1, none⟩) len c, .tuple #[.int .u64 (n : Int), .slice p1 rl c1, .int .i64 0], .int .u64 (n : Int), .slice p1 rl c1, .int .i64 0, .bool false, .int .i64 0, .bool false, undef, .bool (decide (4194304 < (n : Int))), .int .u64 (n : Int), .bool (decide (4194304 < (n : Int))), .bool (decide ((rl : Int) < (n : Int) + 8)), .slice p1 rl c1, .int .i64 (rl : Int), .int .u64 (n : Int), .int .i64 (n : Int), .int .i64 ((n : Int) + 8), .bool (decide ((rl : Int) < (n : Int) + 8)), .tuple #[v2, v3], .slice p1 rl c1, .int .u64 (n : Int), .int .i64 (n : Int), .tuple #[v2, v3], v2, v3, .tuple #[v4, .slice p5 m c5], v3, .tuple #[v4, .slice p5 m c5], v4, .slice p5 m c5, .slice (some ⟨g, off, none⟩) (len + 1) (c + 1), .int .i64 ((len : Int) + 1), .slice p5 m c5, .int .i64 (m : Int), .int .i64 ((N : Int) + 8), v4, .int .u64 A, .slice (some ⟨g, off, none⟩) (len + 1) (c + 1), .int .i64 ((N : Int) + 8), .int .i64 (N : Int), .slice (some ⟨g, off, none⟩) N (c + 1), .int .u64 A, .bool false, .slice (some ⟨g, off, none⟩) (len + 1) (c + 1), .pointer (some ⟨g, off, none⟩), .int .u8 x, undef, undef, undef, undef], defers := [] } W := by
      intro W acc
      rw [← hR]
      have hcl := (acc.cell (p := ⟨g, off, none⟩) ltg).trans hcw
      refine wpAnyIn_ready (rs := [3, 4, 6]) (by kernel_rfl) (by simp) ?_
      refine AllReadyIn.cons rfl (fun K hK => ?_) ?_
      · go_simp
        refine hK _ _ ?_
        have h := H11110000000 W acc
        rw [← hR] at h
        exact h
      refine AllReadyIn.cons rfl (fun K hK => ?_) ?_
      · go_simp
        refine hK _ _ ?_
        have h := H11101000000 W acc
        rw [← hR] at h
        exact h
      refine AllReadyIn.cons rfl (fun K hK => ?_) ?_
      · go_simp
        refine hK _ _ ?_
        have h := H11100010000 W acc
        rw [← hR] at h
        exact h
      exact AllReadyIn.nil
    have H11001110000 : ∀ (W : World) (acc : Below w3.heap.size w3 W) (v6 : Value) (hb6 : Bs W v6 BD), R 6 #[true, true, false, false, true, true, true, false, false, false, false] { tmps := #[.slice (some ⟨g, off, none⟩) (len + 1) (c + 1), undef, .int .i64 0, v2, .int .i64 ((N : Int) + 8), .int .i64 0, .int .u64 (n : Int), .slice p5 m c5, v4, .slice (some ⟨g, off, none⟩) (len + 1) (c + 1), .int .i64 ((len : Int) + 1), .bool false, .slice (some ⟨g, off, none⟩) (len + 1) (c + 1), .pointer (some ⟨g, off, none⟩), .int .u8 x, .bool false, .tuple #[.int .u64 (n : Int), .slice p1 rl c1, .int .i64 0], .slice (some ⟨g, off, none⟩) (len + 1) (c + 1), .slice (some ⟨g, off + 1, none⟩) len c, .tuple #[.int .u64 (n : Int), .slice p1 rl c1, .int .i64 0], .int .u64 (n : Int), .slice p1 rl c1, .int .i64 0, .bool false, .int .i64 0, .bool false, undef, .bool (decide (4194304 < (n : Int))), .int .u64 (n : Int), .bool (decide (4194304 < (n : Int))), .bool (decide ((rl : Int) < (n : Int) + 8)), .slice p1 rl c1, .int .i64 (rl : Int), .int .u64 (n : Int), .int .i64 (n : Int), .int .i64 ((n : Int) + 8), .bool (decide ((rl : Int) < (n : Int) + 8)), .tuple #[v2, v3], .slice p1 rl c1, .int .u64 (n : Int), .int .i64 (n : Int), .tuple #[v2, v3], v2, v3, .tuple #[v4, .slice p5 m c5], v3, .tuple #[v4, .slice p5 m c5], v4, .slice p5 m c5, .slice (some ⟨g, off, none⟩) (len + 1) (c + 1), .int .i64 ((len : Int) + 1), .slice p5 m c5, .int .i64 (m : Int), .int .i64 ((N : Int) + 8), v4, .int .u64 A, .slice (some ⟨g, off, none⟩) (len + 1) (c + 1), .int .i64 ((N : Int) + 8), .int .i64 (N : Int), .slice (some ⟨g, off, none⟩) N (c + 1), .int .u64 A, .bool false, .slice (some ⟨g, off, none⟩) (len + 1) (c + 1), .pointer (some ⟨g, off, none⟩), undef, undef, v2, v6, .int .i64 ((N : Int) + 8)], defers := [] } W := by
      intro W acc v6 hb6
      rw [← hR]
      have hcl := (acc.cell (p := ⟨g, off, none⟩) ltg).trans hcw
      refine wpAnyIn_ready (rs := [2]) (by kernel_rfl) (by simp) ?_
      refine AllReadyIn.cons rfl (fun K hK => ?_) ?_
      · go_simp
        refine hK _ _ ?_
        have h := H11101110000 W acc v6 hb6
        rw [← hR] at h
        exact h
      exact AllReadyIn.nil
    have H11001100000 : ∀ (W : World) (acc : Below w3.heap.size w3 W) (v6 : Value) (hb6 : Bs W v6 BD), R 7 #[true, true, false, false, true, true, false, false, false, false, false] { tmps := #[.slice (some ⟨g, off, none⟩) (len + 1) (c + 1), undef, .int .i64 0, v2, .int .i64 ((N : Int) + 8), .int .i64 0, .int .u64 (n : Int), .slice p5 m c5, v4, .slice (some ⟨g, off, none⟩) (len + 1) (c + 1), .int .i64 ((len : Int) + 1), .bool false, .slice (some ⟨g, off, none⟩) (len + 1) (c + 1), .pointer (some ⟨g, off, none⟩), .int .u8 x, .bool false, .tuple #[.int .u64 (n : Int), .slice p1 rl c1, .int .i64 0], .slice (some ⟨g, off, none⟩) (len + 1) (c + 1), .slice (some ⟨g, off + 1, none⟩) len c, .tuple #[.int .u64 (n : Int), .slice p1 rl c1, .int .i64 0], .int .u64 (n : Int), .slice p1 rl c1, .int .i64 0, .bool false, .int .i64 0, .bool false, undef, .bool (decide (4194304 < (n : Int))), .int .u64 (n : Int), .bool (decide (4194304 < (n : Int))), .bool (decide ((rl : Int) < (n : Int) + 8)), .slice p1 rl c1, .int .i64 (rl : Int), .int .u64 (n : Int), .int .i64 (n : Int), .int .i64 ((n : Int) + 8), .bool (decide ((rl : Int) < (n : Int) + 8)), .tuple #[v2, v3], .slice p1 rl c1, .int .u64 (n : Int), .int .i64 (n : Int), .tuple #[v2, v3], v2, v3, .tuple #[v4, .slice p5 m c5], v3, .tuple #[v4, .slice p5 m c5], v4, .slice p5 m c5, .slice (some ⟨g, off, none⟩) (len + 1) (c + 1), .int .i64 ((len : Int) + 1), .slice p5 m c5, .int .i64 (m : Int), .int .i64 ((N : Int) + 8), v4, .int .u64 A, .slice (some ⟨g, off, none⟩) (len + 1) (c + 1), .int .i64 ((N : Int) + 8), .int .i64 (N : Int), .slice (some ⟨g, off, none⟩) N (c + 1), .int .u64 A, .bool false, .slice (some ⟨g, off, none⟩) (len + 1) (c + 1), .pointer (some ⟨g, off, none⟩), undef, undef, v2, v6, undef], defers := [] } W := by
      intro W acc v6 hb6
      rw [← hR]
      have hcl := (acc.cell (p := ⟨g, off, none⟩) ltg).trans hcw
      refine wpAnyIn_ready (rs := [2, 6]) (by kernel_rfl) (by simp) ?_
      refine AllReadyIn.cons rfl (fun K hK => ?_) ?_
      · go_simp
        refine hK _ _ ?_
        have h := H11101100000 W acc v6 hb6
        rw [← hR] at h
        exact h
      refine AllReadyIn.cons rfl (fun K hK => ?_) ?_
      · go_simp
        refine hK _ _ ?_
        have h := H11001110000 W acc v6 hb6
        rw [← hR] at h
        exact h
      exact AllReadyIn.nil
    have H11001010000 : ∀ (W : World) (acc : Below w3.heap.size w3 W), R 7 #[true, true, false, false, true, false, true, false, false, false, false] { tmps := #[.slice (some ⟨g, off, none⟩) (len + 1) (c + 1), undef, .int .i64 0, v2, .int .i64 ((N : Int) + 8), .int .i64 0, .int .u64 (n : Int), .slice p5 m c5, v4, .slice (some ⟨g, off, none⟩) (len + 1) (c + 1), .int .i64 ((len : Int) + 1), .bool false, .slice (some ⟨g, off, none⟩) (len + 1) (c + 1), .pointer (some ⟨g, off, none⟩), .int .u8 x, .bool false, .tuple #[.int .u64 (n : Int), .slice p1 rl c1, .int .i64 0], .slice (some ⟨g, off, none⟩) (len + 1) (c + 1), .slice (some ⟨g, off + 1, none⟩) len c, .tuple #[.int .u64 (n : Int), .slice p1 rl c1, .int .i64 0], .int .u64 (n : Int), .slice p1 rl c1, .int .i64 0, .bool false, .int .i64 0, .bool false, undef, .bool (decide (4194304 < (n : Int))), .int .u64 (n : Int), .bool (decide (4194304 < (n : Int))), .bool (decide ((rl : Int) < (n : Int) + 8)), .slice p1 rl c1, .int .i64 (rl : Int), .int .u64 (n : Int), .int .i64 (n : Int), .int .i64 ((n : Int) + 8), .bool (decide ((rl : Int) < (n : Int) + 8)), .tuple #[v2, v3], .slice p1 rl c1, .int .u64 (n : Int), .int .i64 (n : Int), .tuple #[v2, v3], v2, v3, .tuple #[v4, .slice p5 m c5], v3, .tuple #[v4, .slice p5 m c5], v4, .slice p5 m c5, .slice (some ⟨g, off, none⟩) (len + 1) (c + 1), .int .i64 ((len : Int) + 1), .slice p5 m c5, .int .i64 (m : Int), .int .i64 ((N : Int) + 8), v4, .int .u64 A, .slice (some ⟨g, off, none⟩) (len + 1) (c + 1), .int .i64 ((N : Int) + 8), .int .i64 (N : Int), .slice (some ⟨g, off, none⟩) N (c + 1), .int .u64 A, .bool false, .slice (some ⟨g, off, none⟩) (len + 1) (c + 1), .pointer (some ⟨g, off, none⟩), undef, undef, v2, undef, .int .i64 ((N : Int) + 8)], defers := [] } W := by
      intro W acc
      rw [← hR]
      have hcl := (acc.cell (p := ⟨g, off, none⟩) ltg).trans hcw
      refine wpAnyIn_ready (rs := [2, 5]) (by kernel_rfl) (by simp) ?_
      refine AllReadyIn.cons rfl (fun K hK => ?_) ?_
      · go_simp
        refine hK _ _ ?_
        have h := H11101010000 W acc
        rw [← hR] at h
        exact h
      refine AllReadyIn.cons rfl (fun K hK => ?_) ?_
      · go_simp
        gi_wp2_with (refine ⟨trivial, ?_⟩; gi_at_call 20; refine (callsIn_wide.2 (tl W (hv2.below acc))).mono ?_; rintro e W2 ⟨v6, rfl, hb6, hb⟩; skip)
        have h := H11001110000 W2 (below_accO acc acc.size hb) v6 hb6
        rw [← hR] at h
        exact h
      exact AllReadyIn.nil
    have H11001000000 : ∀ (W : World) (acc : Below w3.heap.size w3 W), R 8 #[true, true, false, false, true, false, false, false, false, false, false] { tmps := #[.slice (some ⟨g, off, none⟩) (len + 1) (c + 1), undef, .int .i64 0, v2, .int .i64 ((N : Int) + 8), .int .i64 0, .int .u64 (n : Int), .slice p5 m c5, v4, .slice (some ⟨g, off, none⟩) (len + 1) (c + 1), .int .i64 ((len : Int) + 1), .bool false, .slice (some ⟨g, off, none⟩) (len + 1) (c + 1), .pointer (some ⟨g, off, none⟩), .int .u8 x, .bool false, .tuple #[.int .u64 (n : Int), .slice p1 rl c1, .int .i64 0], .slice (some ⟨g, off, none⟩) (len + 1) (c + 1), .slice (some ⟨g, off + 1, none⟩) len c, .tuple #[.int .u64 (n : Int), .slice p1 rl c1, .int .i64 0], .int .u64 (n : Int), .slice p1 rl c1, .int .i64 0, .bool false, .int .i64 0, .bool false, undef, .bool (decide (4194304 < (n : Int))), .int .u64 (n : Int), .bool (decide (4194304 < (n : Int))), .bool (decide ((rl : Int) < (n : Int) + 8)), .slice p1 rl c1, .int .i64 (rl : Int), .int .u64 (n : Int), .int .i64 (n : Int), .int .i64 ((n : Int) + 8), .bool (decide ((rl : Int) < (n : Int) + 8)), .tuple #[v2, v3], .slice p1 rl c1, .int .u64 (n : Int), .int .i64 (n : Int), .tuple #[v2, v3], v2, v3, .tuple #[v4, .slice p5 m c5], v3, .tuple #[v4, .slice p5 m c5], v4, .slice p5 m c5, .slice (some ⟨g, off, none⟩) (len + 1) (c + 1), .int .i64 ((len : Int) + 1), .slice p5 m c5, .int .i64 (m : Int), .int .i64 ((N : Int) + 8), v4, .int .u64 A, .slice (some ⟨g, off, none⟩) (len + 1) (c + 1), .int .i64 ((N : Int) + 8), .int .i64 (N : Int), .slice (some ⟨g, off, none⟩) N (c + 1), .int .u64 A, .bool false, .slice (some ⟨g, off, none⟩) (len + 1) (c + 1), .pointer (some ⟨g, off, none⟩), undef, undef, v2, undef, undef], defers := [] } W := by
      intro W acc
      rw [← hR]
      have hcl := (acc.cell (p := ⟨g, off, none⟩) ltg).trans hcw
      refine wpAnyIn_ready (rs := [2, 5, 6]) (by kernel_rfl) (by simp) ?_
      refine AllReadyIn.cons rfl (fun K hK => ?_) ?_
      · go_simp
        refine hK _ _ ?_
        have h := H11101000000 W acc
        rw [← hR] at h
        exact h
      refine AllReadyIn.cons rfl (fun K hK => ?_) ?_
      · go_simp
        gi_wp2_with (refine ⟨trivial, ?_⟩; gi_at_call 20; refine (callsIn_wide.2 (tl W (hv2.below acc))).mono ?_; rintro e W2 ⟨v6, rfl, hb6, hb⟩; skip)
        have h := H11001100000 W2 (below_accO acc acc.size hb) v6 hb6
        rw [← hR] at h
        exact h
      refine AllReadyIn.cons rfl (fun K hK => ?_) ?_
      · go_simp
        refine hK _ _ ?_
        have h := H11001010000 W acc
        rw [← hR] at h
        exact h
      exact AllReadyIn.nil
    have H11000010000 : ∀ (W : World) (acc : Below w3.heap.size w3 W), R 8 #[true, true, false, false, false, false, true, false, false, false, false] { tmps := #[.slice (some ⟨g, off, none⟩) (len + 1) (c + 1), undef, .int .i64 0, v2, .int .i64 ((N : Int) + 8), .int .i64 0, .int .u64 (n : Int), .slice p5 m c5, v4, .slice (some ⟨g, off, none⟩) (len + 1) (c + 1), .int .i64 ((len : Int) + 1), .bool false, .slice (some ⟨g, off, none⟩) (len + 1) (c + 1), .pointer (some ⟨g, off, none⟩), .int .u8 x, .bool false, .tuple #[.int .u64 (n : Int), .slice p1 rl c1, .int .i64 0], .slice (some ⟨g, off, none⟩) (len + 1) (c + 1), .slice (some ⟨g, off + 1, none⟩) len c, .tuple #[.int .u64 (n : Int), .slice p1 rl c1, .int .i64 0], .int .u64 (n : Int), .slice p1 rl c1, .int .i64 0, .bool false, .int .i64 0, .bool false, undef, .bool (decide (4194304 < (n : Int))), .int .u64 (n : Int), .bool (decide (4194304 < (n : Int))), .bool (decide ((rl : Int) < (n : Int) + 8)), .slice p1 rl c1, .int .i64 (rl : Int), .int .u64 (n : Int), .int .i64 (n : Int), .int .i64 ((n : Int) + 8), .bool (decide ((rl : Int) < (n : Int) + 8)), .tuple #[v2, v3], .slice p1 rl c1, .int .u64 (n : Int), .int .i64 (n : Int), .tuple #[v2, v3], v2, v3, .tuple #[v4, .slice p5 m c5], v3, .tuple #[v4, .slice p5 m c5], v4, .slice p5 m c5, .slice (some ⟨g, off, none⟩) (len + 1) (c + 1), .int .i64 ((len : Int) + 1), .slice p5 m c5, .int .i64 (m : Int), .int .i64 ((N : Int) + 8), v4, .int .u64 A, .slice (some ⟨g, off, none⟩) (len + 1) (c + 1), .int .i64 ((N : Int) + 8), .int .i64 (N : Int), .slice (some ⟨g, off, none⟩) N (c + 1), .int .u64 A, .bool false, .slice (some ⟨g, off, none⟩) (len + 1) (c + 1), .pointer (some ⟨g, off, none⟩), undef, undef, undef, undef, .int .i64 ((N : Int) + 8)], defers := [] } W := by
      intro W acc
      rw [← hR]
      have hcl := (acc.cell (p := ⟨g, off, none⟩) ltg).trans hcw
      refine wpAnyIn_ready (rs := [2, 4]) (by kernel_rfl) (by simp) ?_
      refine AllReadyIn.cons rfl (fun K hK => ?_) ?_
      · go_simp
        refine hK _ _ ?_
        have h := H11100010000 W acc
        rw [← hR] at h
        exact h
      refine AllReadyIn.cons rfl (fun K hK => ?_) ?_
      · go_simp
        refine hK _ _ ?_
        have h := H11001010000 W acc
        rw [← hR] at h
        exact h
      exact AllReadyIn.nil
    have H11000000000 : ∀ (W : World) (acc : Below w3.heap.size w3 W), R 9 #[true, true, false, false, false, false, false, false, false, false, false] { tmps := #[.slice (some ⟨g, off, none⟩) (len + 1) (c + 1), undef, .int .i64 0, v2, .int .i64 ((N : Int) + 8), .int .i64 0, .int .u64 (n : Int), .slice p5 m c5, v4, .slice (some ⟨g, off, none⟩) (len + 1) (c + 1), .int .i64 ((len : Int) + 1), .bool false, .slice (some ⟨g, off, none⟩) (len + 1) (c + 1), .pointer (some ⟨g, off, none⟩), .int .u8 x, .bool false, .tuple #[.int .u64 (n : Int), .slice p1 rl c1, .int .i64 0], .slice (some ⟨g, off, none⟩) (len + 1) (c + 1), .slice (some ⟨g, off + 1, none⟩) len c, .tuple #[.int .u64 (n : Int), .slice p1 rl c1, .int .i64 0], .int .u64 (n : Int), .slice p1 rl c1, .int .i64 0, .bool false, .int .i64 0, .bool false, undef, .bool (decide (4194304 < (n : Int))), .int .u64 (n : Int), .bool (decide (4194304 < (n : Int))), .bool (decide ((rl : Int) < (n : Int) + 8)), .slice p1 rl c1, .int .i64 (rl : Int), .int .u64 (n : Int), .int .i64 (n : Int), .int .i64 ((n : Int) + 8), .bool (decide ((rl : Int) < (n : Int) + 8)), .tuple #[v2, v3], .slice p1 rl c1, .int .u64 (n : Int), .int .i64 (n : Int), .tuple #[v2, v3], v2, v3, .tuple #[v4, .slice p5 m c5], v3, .tuple #[v4, .slice p5 m c5], v4, .slice p5 m c5, .slice (some ⟨g, off, none⟩) (len + 1) (c + 1), .int .i64 ((len : Int) + 1), .slice p5 m c5, .int .i64 (m : Int), .int .i64 ((N : Int) + 8), v4, .int .u64 A, .slice (some ⟨g, off, none⟩) (len + 1) (c + 1), .int .i64 ((N : Int) + 8), .int .i64 (N : Int), .slice (some ⟨g, off, none⟩) N (c + 1), .int .u64 A, .bool false, .slice (some ⟨g, off, none⟩) (len + 1) (c + 1), .pointer (some ⟨g, off, none⟩), undef, undef, undef, undef, undef], defers := [] } W := by
      intro W acc
      rw [← hR]
      have hcl := (acc.cell (p := ⟨g, off, none⟩) ltg).trans hcw
      refine wpAnyIn_ready (rs := [2, 4, 6]) (by kernel_rfl) (by simp) ?_
      refine AllReadyIn.cons rfl (fun K hK => ?_) ?_
      · go_simp
        refine hK _ _ ?_
        have h := H11100000000 W acc
        rw [← hR] at h
        exact h
      refine AllReadyIn.cons rfl (fun K hK => ?_) ?_
      · go_simp
        refine hK _ _ ?_
        have h := H11001000000 W acc
        rw [← hR] at h
        exact h
      refine AllReadyIn.cons rfl (fun K hK => ?_) ?_
      · go_simp
        refine hK _ _ ?_
        have h := H11000010000 W acc
        rw [← hR] at h
        exact h
      exact AllReadyIn.nil
    have H10001110000 : ∀ (W : World) (acc : Below w3.heap.size w3 W) (v6 : Value) (hb6 : Bs W v6 BD), R 7 #[true, false, false, false, true, true, true, false, false, false, false] { tmps := #[.slice (some ⟨g, off, none⟩) (len + 1) (c + 1), undef, .int .i64 0, v2, .int .i64 ((N : Int) + 8), .int .i64 0, .int .u64 (n : Int), .slice p5 m c5, v4, .slice (some ⟨g, off, none⟩) (len + 1) (c + 1), .int .i64 ((len : Int) + 1), .bool false, .slice (some ⟨g, off, none⟩) (len + 1) (c + 1), .pointer (some ⟨g, off, none⟩), .int .u8 x, .bool false, .tuple #[.int .u64 (n : Int), .slice p1 rl c1, .int .i64 0], .slice (some ⟨g, off, none⟩) (len + 1) (c + 1), .slice (some ⟨g, off + 1, none⟩) len c, .tuple #[.int .u64 (n : Int), .slice p1 rl c1, .int .i64 0], .int .u64 (n : Int), .slice p1 rl c1, .int .i64 0, .bool false, .int .i64 0, .bool false, undef, .bool (decide (4194304 < (n : Int))), .int .u64 (n : Int), .bool (decide (4194304 < (n : Int))), .bool (decide ((rl : Int) < (n : Int) + 8)), .slice p1 rl c1, .int .i64 (rl : Int), .int .u64 (n : Int), .int .i64 (n : Int), .int .i64 ((n : Int) + 8), .bool (decide ((rl : Int) < (n : Int) + 8)), .tuple #[v2, v3], .slice p1 rl c1, .int .u64 (n : Int), .int .i64 (n : Int), .tuple #[v2, v3], v2, v3, .tuple #[v4, .slice p5 m c5], v3, .tuple #[v4, .slice p5 m c5], v4, .slice p5 m c5, .slice (some ⟨g, off, none⟩) (len + 1) (c + 1), .int .i64 ((len : Int) + 1), .slice p5 m c5, .int .i64 (m : Int), .int .i64 ((N : Int) + 8), v4, .int .u64 A, .slice (some ⟨g, off, none⟩) (len + 1) (c + 1), .int .i64 ((N : Int) + 8), .int .i64 (N : Int), .slice (some ⟨g, off, none⟩) N (c + 1), .int .u64 A, .bool false, .slice (some ⟨g, off, none⟩) (len + 1) (c + 1), undef, undef, undef, v2, v6, .int .i64 ((N : Int) + 8)], defers := [] } W := by
      intro W acc v6 hb6
      rw [← hR]
      have hcl := (acc.cell (p := ⟨g, off, none⟩) ltg).trans hcw
      refine wpAnyIn_ready (rs := [1]) (by kernel_rfl) (by simp) ?_
      refine AllReadyIn.cons rfl (fun K hK => ?_) ?_
      · go_simp
        refine hK _ _ ?_
        have h := H11001110000 W acc v6 hb6
        rw [← hR] at h
        exact h
      exact AllReadyIn.nil
    have H10001100000 : ∀ (W : World) (acc : Below w3.heap.size w3 W) (v6 : Value) (hb6 : Bs W v6 BD), R 8 #[true, false, false, false, true, true, false, false, false, false, false] { tmps := #[.slice (some ⟨g, off, none⟩) (len + 1) (c + 1), undef, .int .i64 0, v2, .int .i64 ((N : Int) + 8), .int .i64 0, .int .u64 (n : Int), .slice p5 m c5, v4, .slice (some ⟨g, off, none⟩) (len + 1) (c + 1), .int .i64 ((len : Int) + 1), .bool false, .slice (some ⟨g, off, none⟩) (len + 1) (c + 1), .pointer (some ⟨g, off, none⟩), .int .u8 x, .bool false, .tuple #[.int .u64 (n : Int), .slice p1 rl c1, .int .i64 0], .slice (some ⟨g, off, none⟩) (len + 1) (c + 1), .slice (some ⟨g, off + 1, none⟩) len c, .tuple #[.int .u64 (n : Int), .slice p1 rl c1, .int .i64 0], .int .u64 (n : Int), .slice p1 rl c1, .int .i64 0, .bool false, .int .i64 0, .bool false, undef, .bool (decide (4194304 < (n : Int))), .int .u64 (n : Int), .bool (decide (4194304 < (n : Int))), .bool (decide ((rl : Int) < (n : Int) + 8)), .slice p1 rl c1, .int .i64 (rl : Int), .int .u64 (n : Int), .int .i64 (n : Int), .int .i64 ((n : Int) + 8), .bool (decide ((rl : Int) < (n : Int) + 8)), .tuple #[v2, v3], .slice p1 rl c1, .int .u64 (n : Int), .int .i64 (n : Int), .tuple #[v2, v3], v2, v3, .tuple #[v4, .slice p5 m c5], v3, .tuple #[v4, .slice p5 m c5], v4, .slice p5 m c5, .slice (some ⟨g, off, none⟩) (len + 1) (c + 1), .int .i64 ((len : Int) + 1), .slice p5 m c5, .int .i64 (m : Int), .int .i64 ((N : Int) + 8), v4, .int .u64 A, .slice (some ⟨g, off, none⟩) (len + 1) (c + 1), .int .i64 ((N : Int) + 8), .int .i64 (N : Int), .slice (some ⟨g, off, none⟩) N (c + 1), .int .u64 A, .bool false, .slice (some ⟨g, off, none⟩) (len + 1) (c + 1), undef, undef, undef, v2, v6, undef], defers := [] } W := by
      intro W acc v6 hb6
      rw [← hR]
      have hcl := (acc.cell (p := ⟨g, off, none⟩) ltg).trans hcw
      refine wpAnyIn_ready (rs := [1, 6]) (by kernel_rfl) (by simp) ?_
      refine AllReadyIn.cons rfl (fun K hK => ?_) ?_
      · go_simp
        refine hK _ _ ?_
        have h := H11001100000 W acc v6 hb6
        rw [← hR] at h
        exact h
      refine AllReadyIn.cons rfl (fun K hK => ?_) ?_
      · go_simp
        refine hK _ _ ?_
        have h := H10001110000 W acc v6 hb6
        rw [← hR] at h
        exact h
      exact AllReadyIn.nil
    have H10001010000 : ∀ (W : World) (acc : Below w3.heap.size w3 W), R 8 #[true, false, false, false, true, false, true, false, false, false, false] { tmps := #[.slice (some ⟨g, off, none⟩) (len + 1) (c + 1), undef, .int .i64 0, v2, .int .i64 ((N : Int) + 8), .int .i64 0, .int .u64 (n : Int), .slice p5 m c5, v4, .slice (some ⟨g, off, none⟩) (len + 1) (c + 1), .int .i64 ((len : Int) + 1), .bool false, .slice (some ⟨g, off, none⟩) (len + 1) (c + 1), .pointer (some ⟨g, off, none⟩), .int .u8 x, .bool false, .tuple #[.int .u64 (n : Int), .slice p1 rl c1, .int .i64 0], .slice (some ⟨g, off, none⟩) (len + 1) (c + 1), .slice (some ⟨g, off + 1, none⟩) len c, .tuple #[.int .u64 (n : Int), .slice p1 rl c1, .int .i64 0], .int .u64 (n : Int), .slice p1 rl c1, .int .i64 0, .bool false, .int .i64 0, .bool false, undef, .bool (decide (4194304 < (n : Int))), .int .u64 (n : Int), .bool (decide (4194304 < (n : Int))), .bool (decide ((rl : Int) < (n : Int) + 8)), .slice p1 rl c1, .int .i64 (rl : Int), .int .u64 (n : Int), .int .i64 (n : Int), .int .i64 ((n : Int) + 8), .bool (decide ((rl : Int) < (n : Int) + 8)), .tuple #[v2, v3], .slice p1 rl c1, .int .u64 (n : Int), .int .i64 (n : Int), .tuple #[v2, v3], v2, v3, .tuple #[v4, .slice p5 m c5], v3, .tuple #[v4, .slice p5 m c5], v4, .slice p5 m c5, .slice (some ⟨g, off, none⟩) (len + 1) (c + 1), .int .i64 ((len : Int) + 1), .slice p5 m c5, .int .i64 (m : Int), .int .i64 ((N : Int) + 8), v4, .int .u64 A, .slice (some ⟨g, off, none⟩) (len + 1) (c + 1), .int .i64 ((N : Int) + 8), .int .i64 (N : Int), .slice (some ⟨g, off, none⟩) N (c + 1), .int .u64 A, .bool false, .slice (some ⟨g, off, none⟩) (len + 1) (c + 1), undef, undef, undef, v2, undef, .int .i64 ((N : Int) + 8)], defers := [] } W := by
      intro W acc
      rw [← hR]
      have hcl := (acc.cell (p := ⟨g, off, none⟩) ltg).trans hcw
      refine wpAnyIn_ready (rs := [1, 5]) (by kernel_rfl) (by simp) ?_
      refine AllReadyIn.cons rfl (fun K hK => ?_) ?_
      · go_simp
        refine hK _ _ ?_
        have h := H11001010000 W acc
        rw [← hR] at h
        exact h
      refine AllReadyIn.cons rfl (fun K hK => ?_) ?_
      · go_simp
        gi_wp2_with (refine ⟨trivial, ?_⟩; gi_at_call 20; refine (callsIn_wide.2 (tl W (hv2.below acc))).mono ?_; rintro e W2 ⟨v6, rfl, hb6, hb⟩; skip)
        have h := H10001110000 W2 (below_accO acc acc.size hb) v6 hb6
        rw [← hR] at h
        exact h
      exact AllReadyIn.nil
    have H10001000000 : ∀ (W : World) (acc : Below w3.heap.size w3 W), R 9 #[true, false, false, false, true, false, false, false, false, false, false] { tmps := #[.slice (some ⟨g, off, none⟩) (len + 1) (c + 1), undef, .int .i64 0, v2, .int .i64 ((N : Int) + 8), .int .i64 0, .int .u64 (n : Int), .slice p5 m c5, v4, .slice (some ⟨g, off, none⟩) (len + 1) (c + 1), .int .i64 ((len : Int) + 1), .bool false, .slice (some ⟨g, off, none⟩) (len + 1) (c + 1), .pointer (some ⟨g, off, none⟩), .int .u8 x, .bool false, .tuple #[.int .u64 (n : Int), .slice p1 rl c1, .int .i64 0], .slice (some ⟨g, off, none⟩) (len + 1) (c + 1), .slice (some ⟨g, off + 1, none⟩) len c, .tuple #[.int .u64 (n : Int), .slice p1 rl c1, .int .i64 0], .int .u64 (n : Int), .slice p1 rl c1, .int .i64 0, .bool false, .int .i64 0, .bool false, undef, .bool (decide (4194304 < (n : Int))), .int .u64 (n : Int), .bool (decide (4194304 < (n : Int))), .bool (decide ((rl : Int) < (n : Int) + 8)), .slice p1 rl c1, .int .i64 (rl : Int), .int .u64 (n : Int), .int .i64 (n : Int), .int .i64 ((n : Int) + 8), .bool (decide ((rl : Int) < (n : Int) + 8)), .tuple #[v2, v3], .slice p1 rl c1, .int .u64 (n : Int), .int .i64 (n : Int), .tuple #[v2, v3], v2, v3, .tuple #[v4, .slice p5 m c5], v3, .tuple #[v4, .slice p5 m c5], v4, .slice p5 m c5, .slice (some ⟨g, off, none⟩) (len + 1) (c + 1), .int .i64 ((len : Int) + 1), .slice p5 m c5, .int .i64 (m : Int), .int .i64 ((N : Int) + 8), v4, .int .u64 A, .slice (some ⟨g, off, none⟩) (len + 1) (c + 1), .int .i64 ((N : Int) + 8), .int .i64 (N : Int), .slice (some ⟨g, off, none⟩) N (c + 1), .int .u64 A, .bool false, .slice (some ⟨g, off, none⟩) (len + 1) (c + 1), undef, undef, undef, v2, undef, undef], defers := [] } W := by
      intro W acc
      rw [← hR]
      have hcl := (acc.cell (p := ⟨g, off, none⟩) ltg).trans hcw
      refine wpAnyIn_ready (rs := [1, 5, 6]) (by kernel_rfl) (by simp) ?_
      refine AllReadyIn.cons rfl (fun K hK => ?_) ?_
      · go_simp
        refine hK _ _ ?_
        have h := H11001000000 W acc
        rw [← hR] at h
        exact h
      refine AllReadyIn.cons rfl (fun K hK => ?_) ?_
      · go_simp
        gi_wp2_with (refine ⟨trivial, ?_⟩; gi_at_call 20; refine (callsIn_wide.2 (tl W (hv2.below acc))).mono ?_; rintro e W2 ⟨v6, rfl, hb6, hb⟩; skip)
        have h := H10001100000 W2 (below_accO acc acc.size hb) v6 hb6
        rw [← hR] at h
        exact h
      refine AllReadyIn.cons rfl (fun K hK => ?_) ?_
      · go_simp
        refine hK _ _ ?_
        have h := H10001010000 W acc
        rw [← hR] at h
        exact h
      exact AllReadyIn.nil
    have H10000010000 : ∀ (W : World) (acc : Below w3.heap.size w3 W), R 9 #[true, false, false, false, false, false, true, false, false, false, false] { tmps := #[.slice (some ⟨g, off, none⟩) (len + 1) (c + 1), undef, .int .i64 0, v2, .int .i64 ((N : Int) + 8), .int .i64 0, .int .u64 (n : Int), .slice p5 m c5, v4, .slice (some ⟨g, off, none⟩) (len + 1) (c + 1), .int .i64 ((len : Int) + 1), .bool false, .slice (some ⟨g, off, none⟩) (len + 1) (c + 1), .pointer (some ⟨g, off, none⟩), .int .u8 x, .bool false, .tuple #[.int .u64 (n : Int), .slice p1 rl c1, .int .i64 0], .slice (some ⟨g, off, none⟩) (len + 1) (c + 1), .slice (some ⟨g, off + 1, none⟩) len c, .tuple #[.int .u64 (n : Int), .slice p1 rl c1, .int .i64 0], .int .u64 (n : Int), .slice p1 rl c1, .int .i64 0, .bool false, .int .i64 0, .bool false, undef, .bool (decide (4194304 < (n : Int))), .int .u64 (n : Int), .bool (decide (4194304 < (n : Int))), .bool (decide ((rl : Int) < (n : Int) + 8)), .slice p1 rl c1, .int .i64 (rl : Int), .int .u64 (n : Int), .int .i64 (n : Int), .int .i64 ((n : Int) + 8), .bool (decide ((rl : Int) < (n : Int) + 8)), .tuple #[v2, v3], .slice p1 rl c1, .int .u64 (n : Int), .int .i64 (n : Int), .tuple #[v2, v3], v2, v3, .tuple #[v4, .slice p5 m c5], v3, .tuple #[v4, .slice p5 m c5], v4, .slice p5 m c5, .slice (some ⟨g, off, none⟩) (len + 1) (c + 1), .int .i64 ((len : Int) + 1), .slice p5 m c5, .int .i64 (m : Int), .int .i64 ((N : Int) + 8), v4, .int .u64 A, .slice (some ⟨g, off, none⟩) (len + 1) (c + 1), .int .i64 ((N : Int) + 8), .int .i64 (N : Int), .slice (some ⟨g, off, none⟩) N (c + 1), .int .u64 A, .bool false, .slice (some ⟨g, off, none⟩) (len + 1) (c + 1), undef, undef, undef, undef, undef, .int .i64 ((N : Int) + 8)], defers := [] } W := by
      intro W acc
      rw [← hR]
      have hcl := (acc.cell (p := ⟨g, off, none⟩) ltg).trans hcw
      refine wpAnyIn_ready (rs := [1, 4]) (by kernel_rfl) (by simp) ?_
      refine AllReadyIn.cons rfl (fun K hK => ?_) ?_
      · go_simp
        refine hK _ _ ?_
        have h := H11000010000 W acc
        rw [← hR] at h
        exact h
      refine AllReadyIn.cons rfl (fun K hK => ?_) ?_
      · go_simp
        refine hK _ _ ?_
        have h := H10001010000 W acc
        rw [← hR] at h
        exact h
      exact AllReadyIn.nil
    have H10000000000 : ∀ (W : World) (acc : Below w3.heap.size w3 W), R 10 #[true, false, false, false, false, false, false, false, false, false, false] { tmps := #[.slice (some ⟨g, off, none⟩) (len + 1) (c + 1), undef, .int .i64 0, v2, .int .i64 ((N : Int) + 8), .int .i64 0, .int .u64 (n : Int), .slice p5 m c5, v4, .slice (some ⟨g, off, none⟩) (len + 1) (c + 1), .int .i64 ((len : Int) + 1), .bool false, .slice (some ⟨g, off, none⟩) (len + 1) (c + 1), .pointer (some ⟨g, off, none⟩), .int .u8 x, .bool false, .tuple #[.int .u64 (n : Int), .slice p1 rl c1, .int .i64 0], .slice (some ⟨g, off, none⟩) (len + 1) (c + 1), .slice (some ⟨g, off + 1, none⟩) len c, .tuple #[.int .u64 (n : Int), .slice p1 rl c1, .int .i64 0], .int .u64 (n : Int), .slice p1 rl c1, .int .i64 0, .bool false, .int .i64 0, .bool false, undef, .bool (decide (4194304 < (n : Int))), .int .u64 (n : Int), .bool (decide (4194304 < (n : Int))), .bool (decide ((rl : Int) < (n : Int) + 8)), .slice p1 rl c1, .int .i64 (rl : Int), .int .u64 (n : Int), .int .i64 (n : Int), .int .i64 ((n : Int) + 8), .bool (decide ((rl : Int) < (n : Int) + 8)), .tuple #[v2, v3], .slice p1 rl c1, .int .u64 (n : Int), .int .i64 (n : Int), .tuple #[v2, v3], v2, v3, .tuple #[v4, .slice p5 m c5], v3, .tuple #[v4, .slice p5 m c5], v4, .slice p5 m c5, .slice (some ⟨g, off, none⟩) (len + 1) (c + 1), .int .i64 ((len : Int) + 1), .slice p5 m c5, .int .i64 (m : Int), .int .i64 ((N : Int) + 8), v4, .int .u64 A, .slice (some ⟨g, off, none⟩) (len + 1) (c + 1), .int .i64 ((N : Int) + 8), .int .i64 (N : Int), .slice (some ⟨g, off, none⟩) N (c + 1), .int .u64 A, .bool false, .slice (some ⟨g, off, none⟩) (len + 1) (c + 1), undef, undef, undef, undef, undef, undef], defers := [] } W := by
      intro W acc
      rw [← hR]
      have hcl := (acc.cell (p := ⟨g, off, none⟩) ltg).trans hcw
      refine wpAnyIn_ready (rs := [1, 4, 6]) (by kernel_rfl) (by simp) ?_
      refine AllReadyIn.cons rfl (fun K hK => ?_) ?_
      · go_simp
        refine hK _ _ ?_
        have h := H11000000000 W acc
        rw [← hR] at h
        exact h
      refine AllReadyIn.cons rfl (fun K hK => ?_) ?_
      · go_simp
        refine hK _ _ ?_
        have h := H10001000000 W acc
        rw [← hR] at h
        exact h
      refine AllReadyIn.cons rfl (fun K hK => ?_) ?_
      · go_simp
        refine hK _ _ ?_
        have h := H10000010000 W acc
        rw [← hR] at h
        exact h
      exact AllReadyIn.nil
    have H00001110000 : ∀ (W : World) (acc : Below w3.heap.size w3 W) (v6 : Value) (hb6 : Bs W v6 BD), R 8 #[false, false, false, false, true, true, true, false, false, false, false] { tmps := #[.slice (some ⟨g, off, none⟩) (len + 1) (c + 1), undef, .int .i64 0, v2, .int .i64 ((N : Int) + 8), .int .i64 0, .int .u64 (n : Int), .slice p5 m c5, v4, .slice (some ⟨g, off, none⟩) (len + 1) (c + 1), .int .i64 ((len : Int) + 1), .bool false, .slice (some ⟨g, off, none⟩) (len + 1) (c + 1), .pointer (some ⟨g, off, none⟩), .int .u8 x, .bool false, .tuple #[.int .u64 (n : Int), .slice p1 rl c1, .int .i64 0], .slice (some ⟨g, off, none⟩) (len + 1) (c + 1), .slice (some ⟨g, off + 1, none⟩) len c, .tuple #[.int .u64 (n : Int), .slice p1 rl c1, .int .i64 0], .int .u64 (n : Int), .slice p1 rl c1, .int .i64 0, .bool false, .int .i64 0, .bool false, undef, .bool (decide (4194304 < (n : Int))), .int .u64 (n : Int), .bool (decide (4194304 < (n : Int))), .bool (decide ((rl : Int) < (n : Int) + 8)), .slice p1 rl c1, .int .i64 (rl : Int), .int .u64 (n : Int), .int .i64 (n : Int), .int .i64 ((n : Int) + 8), .bool (decide ((rl : Int) < (n : Int) + 8)), .tuple #[v2, v3], .slice p1 rl c1, .int .u64 (n : Int), .int .i64 (n : Int), .tuple #[v2, v3], v2, v3, .tuple #[v4, .slice p5 m c5], v3, .tuple #[v4, .slice p5 m c5], v4, .slice p5 m c5, .slice (some ⟨g, off, none⟩) (len + 1) (c + 1), .int .i64 ((len : Int) + 1), .slice p5 m c5, .int .i64 (m : Int), .int .i64 ((N : Int) + 8), v4, .int .u64 A, .slice (some ⟨g, off, none⟩) (len + 1) (c + 1), .int .i64 ((N : Int) + 8), .int .i64 (N : Int), .slice (some ⟨g, off, none⟩) N (c + 1), .int .u64 A, .bool false, undef, undef, undef, undef, v2, v6, .int .i64 ((N : Int) + 8)], defers := [] } W := by
      intro W acc v6 hb6
      rw [← hR]
      have hcl := (acc.cell (p := ⟨g, off, none⟩) ltg).trans hcw
      refine wpAnyIn_ready (rs := [0]) (by kernel_rfl) (by simp) ?_
      refine AllReadyIn.cons rfl (fun K hK => ?_) ?_
      · go_simp
        refine hK _ _ ?_
        have h := H10001110000 W acc v6 hb6
        rw [← hR] at h
        exact h
      exact AllReadyIn.nil
    have H00001100000 : ∀ (W : World) (acc : Below w3.heap.size w3 W) (v6 : Value) (hb6 : Bs W v6 BD), R 9 #[false, false, false, false, true, true, false, false, false, false, false] { tmps := #[.slice (some ⟨g, off, none⟩) (len + 1) (c + 1), undef, .int .i64 0, v2, .int .i64 ((N : Int) + 8), .int .i64 0, .int .u64 (n : Int), .slice p5 m c5, v4, .slice (some ⟨g, off, none⟩) (len + 1) (c + 1), .int .i64 ((len : Int) + 1), .bool false, .slice (some ⟨g, off, none⟩) (len + 1) (c + 1), .pointer (some ⟨g, off, none⟩), .int .u8 x, .bool false, .tuple #[.int .u64 (n : Int), .slice p1 rl c1, .int .i64 0], .slice (some ⟨g, off, none⟩) (len + 1) (c + 1), .slice (some ⟨g, off + 1, none⟩) len c, .tuple #[.int .u64 (n : Int), .slice p1 rl c1, .int .i64 0], .int .u64 (n : Int), .slice p1 rl c1, .int .i64 0, .bool false, .int .i64 0, .bool false, undef, .bool (decide (4194304 < (n : Int))), .int .u64 (n : Int), .bool (decide (4194304 < (n : Int))), .bool (decide ((rl : Int) < (n : Int) + 8)), .slice p1 rl c1, .int .i64 (rl : Int), .int .u64 (n : Int), .int .i64 (n : Int), .int .i64 ((n : Int) + 8), .bool (decide ((rl : Int) < (n : Int) + 8)), .tuple #[v2, v3], .slice p1 rl c1, .int .u64 (n : Int), .int .i64 (n : Int), .tuple #[v2, v3], v2, v3, .tuple #[v4, .slice p5 m c5], v3, .tuple #[v4, .slice p5 m c5], v4, .slice p5 m c5, .slice (some ⟨g, off, none⟩) (len + 1) (c + 1), .int .i64 ((len : Int) + 1), .slice p5 m c5, .int .i64 (m : Int), .int .i64 ((N : Int) + 8), v4, .int .u64 A, .slice (some ⟨g, off, none⟩) (len + 1) (c + 1), .int .i64 ((N : Int) + 8), .int .i64 (N : Int), .slice (some ⟨g, off, none⟩) N (c + 1), .int .u64 A, .bool false, undef, undef, undef, undef, v2, v6, undef], defers := [] } W := by
      intro W acc v6 hb6
      rw [← hR]
      have hcl := (acc.cell (p := ⟨g, off, none⟩) ltg).trans hcw
      refine wpAnyIn_ready (rs := [0, 6]) (by kernel_rfl) (by simp) ?_
      refine AllReadyIn.cons rfl (fun K hK => ?_) ?_
      · go_simp
        refine hK _ _ ?_
        have h := H10001100000 W acc v6 hb6
        rw [← hR] at h
        exact h
      refine AllReadyIn.cons rfl (fun K hK => ?_) ?_
      · go_simp
        refine hK _ _ ?_
        have h := H00001110000 W acc v6 hb6
        rw [← hR] at h
        exact h
      exact AllReadyIn.nil
    have H00001010000 : ∀ (W : World) (acc : Below w3.heap.size w3 W), R 9 #[false, false, false, false, true, false, true, false, false, false, false] { tmps := #[.slice (some ⟨g, off, none⟩) (len + 1) (c + 1), undef, .int .i64 0, v2, .int .i64 ((N : Int) + 8), .int .i64 0, .int .u64 (n : Int), .slice p5 m c5, v4, .slice (some ⟨g, off, none⟩) (len + 1) (c + 1), .int .i64 ((len : Int) + 1), .bool false, .slice (some ⟨g, off, none⟩) (len + 1) (c + 1), .pointer (some ⟨g, off, none⟩), .int .u8 x, .bool false, .tuple #[.int .u64 (n : Int), .slice p1 rl c1, .int .i64 0], .slice (some ⟨g, off, none⟩) (len + 1) (c + 1), .slice (some ⟨g, off + 1, none⟩) len c, .tuple #[.int .u64 (n : Int), .slice p1 rl c1, .int .i64 0], .int .u64 (n : Int), .slice p1 rl c1, .int .i64 0, .bool false, .int .i64 0, .bool false, undef, .bool (decide (4194304 < (n : Int))), .int .u64 (n : Int), .bool (decide (4194304 < (n : Int))), .bool (decide ((rl : Int) < (n : Int) + 8)), .slice p1 rl c1, .int .i64 (rl : Int), .int .u64 (n : Int), .int .i64 (n : Int), .int .i64 ((n : Int) + 8), .bool (decide ((rl : Int) < (n : Int) + 8)), .tuple #[v2, v3], .slice p1 rl c1, .int .u64 (n : Int), .int .i64 (n : Int), .tuple #[v2, v3], v2, v3, .tuple #[v4, .slice p5 m c5], v3, .tuple #[v4, .slice p5 m c5], v4, .slice p5 m c5, .slice (some ⟨g, off, none⟩) (len + 1) (c + 1), .int .i64 ((len : Int) + 1), .slice p5 m c5, .int .i64 (m : Int), .int .i64 ((N : Int) + 8), v4, .int .u64 A, .slice (some ⟨g, off, none⟩) (len + 1) (c + 1), .int .i64 ((N : Int) + 8), .int .i64 (N : Int), .slice (some ⟨g, off, none⟩) N (c + 1), .int .u64 A, .bool false, undef, undef, undef, undef, v2, undef, .int .i64 ((N : Int) + 8)], defers := [] } W := by
      intro W acc
      rw [← hR]
      have hcl := (acc.cell (p := ⟨g, off, none⟩) ltg).trans hcw
      refine wpAnyIn_ready (rs := [0, 5]) (by kernel_rfl) (by simp) ?_
      refine AllReadyIn.cons rfl (fun K hK => ?_) ?_
      · go_simp
        refine hK _ _ ?_
        have h := H10001010000 W acc
        rw [← hR] at h
        exact h
      refine AllReadyIn.cons rfl (fun K hK => ?_) ?_
      · go_simp
        gi_wp2_with (refine ⟨trivial, ?_⟩; gi_at_call 20; refine (callsIn_wide.2 (tl W (hv2.below acc))).mono ?_; rintro e W2 ⟨v6, rfl, hb6, hb⟩; skip)
        have h := H00001110000 W2 (below_accO acc acc.size hb) v6 hb6
        rw [← hR] at h
        exact h
      exact AllReadyIn.nil
    have H00001000000 : ∀ (W : World) (acc : Below w3.heap.size w3 W), R 10 #[false, false, false, false, true, false, false, false, false, false, false] { tmps := #[.slice (some ⟨g, off, none⟩) (len + 1) (c + 1), undef, .int .i64 0, v2, .int .i64 ((N : Int) + 8), .int .i64 0, .int .u64 (n : Int), .slice p5 m c5, v4, .slice (some ⟨g, off, none⟩) (len + 1) (c + 1), .int .i64 ((len : Int) + 1), .bool false, .slice (some ⟨g, off, none⟩) (len + 1) (c + 1), .pointer (some ⟨g, off, none⟩), .int .u8 x, .bool false, .tuple #[.int .u64 (n : Int), .slice p1 rl c1, .int .i64 0], .slice (some ⟨g, off, none⟩) (len + 1) (c + 1), .slice (some ⟨g, off + 1, none⟩) len c, .tuple #[.int .u64 (n : Int), .slice p1 rl c1, .int .i64 0], .int .u64 (n : Int), .slice p1 rl c1, .int .i64 0, .bool false, .int .i64 0, .bool false, undef, .bool (decide (4194304 < (n : Int))), .int .u64 (n : Int), .bool (decide (4194304 < (n : Int))), .bool (decide ((rl : Int) < (n : Int) + 8)), .slice p1 rl c1, .int .i64 (rl : Int), .int .u64 (n : Int), .int .i64 (n : Int), .int .i64 ((n : Int) + 8), .bool (decide ((rl : Int) < (n : Int) + 8)), .tuple #[v2, v3], .slice p1 rl c1, .int .u64 (n : Int), .int .i64 (n : Int), .tuple #[v2, v3], v2, v3, .tuple #[v4, .slice p5 m c5], v3, .tuple #[v4, .slice p5 m c5], v4, .slice p5 m c5, .slice (some ⟨g, off, none⟩) (len + 1) (c + 1), .int .i64 ((len : Int) + 1), .slice p5 m c5, .int .i64 (m : Int), .int .i64 ((N : Int) + 8), v4, .int .u64 A, .slice (some ⟨g, off, none⟩) (len + 1) (c + 1), .int .i64 ((N : Int) + 8), .int .i64 (N : Int), .slice (some ⟨g, off, none⟩) N (c + 1), .int .u64 A, .bool false, undef, undef, undef, undef, v2, undef, undef], defers := [] } W := by
      intro W acc
      rw [← hR]
      have hcl := (acc.cell (p := ⟨g, off, none⟩) ltg).trans hcw
      refine wpAnyIn_ready (rs := [0, 5, 6]) (by kernel_rfl) (by simp) ?_
      refine AllReadyIn.cons rfl (fun K hK => ?_) ?_
      · go_simp
        refine hK _ _ ?_
        have h := H10001000000 W acc
        rw [← hR] at h
        exact h
      refine AllReadyIn.cons rfl (fun K hK => ?_) ?_
      · go_simp
        gi_wp2_with (refine ⟨trivial, ?_⟩; gi_at_call 20; refine (callsIn_wide.2 (tl W (hv2.below acc))).mono ?_; rintro e W2 ⟨v6, rfl, hb6, hb⟩; skip)
        have h := H00001100000 W2 (below_accO acc acc.size hb) v6 hb6
        rw [← hR] at h
        exact h
      refine AllReadyIn.cons rfl (fun K hK => ?_) ?_
      · go_simp
        refine hK _ _ ?_
        have h := H00001010000 W acc
        rw [← hR] at h
        exact h
      exact AllReadyIn.nil
    have H00000010000 : ∀ (W : World) (acc : Below w3.heap.size w3 W), R 10 #[false, false, false, false, false, false, true, false, false, false, false] { tmps := #[.slice (some ⟨g, off, none⟩) (len + 1) (c + 1), undef, .int .i64 0, v2, .int .i64 ((N : Int) + 8), .int .i64 0, .int .u64 (n : Int), .slice p5 m c5, v4, .slice (some ⟨g, off, none⟩) (len + 1) (c + 1), .int .i64 ((len : Int) + 1), .bool false, .slice (some ⟨g, off, none⟩) (len + 1) (c + 1), .pointer (some ⟨g, off, none⟩), .int .u8 x, .bool false, .tuple #[.int .u64 (n : Int), .slice p1 rl c1, .int .i64 0], .slice (some ⟨g, off, none⟩) (len + 1) (c + 1), .slice (some ⟨g, off + 1, none⟩) len c, .tuple #[.int .u64 (n : Int), .slice p1 rl c1, .int .i64 0], .int .u64 (n : Int), .slice p1 rl c1, .int .i64 0, .bool false, .int .i64 0, .bool false, undef, .bool (decide (4194304 < (n : Int))), .int .u64 (n : Int), .bool (decide (4194304 < (n : Int))), .bool (decide ((rl : Int) < (n : Int) + 8)), .slice p1 rl c1, .int .i64 (rl : Int), .int .u64 (n : Int), .int .i64 (n : Int), .int .i64 ((n : Int) + 8), .bool (decide ((rl : Int) < (n : Int) + 8)), .tuple #[v2, v3], .slice p1 rl c1, .int .u64 (n : Int), .int .i64 (n : Int), .tuple #[v2, v3], v2, v3, .tuple #[v4, .slice p5 m c5], v3, .tuple #[v4, .slice p5 m c5], v4, .slice p5 m c5, .slice (some ⟨g, off, none⟩) (len + 1) (c + 1), .int .i64 ((len : Int) + 1), .slice p5 m c5, .int .i64 (m : Int), .int .i64 ((N : Int) + 8), v4, .int .u64 A, .slice (some ⟨g, off, none⟩) (len + 1) (c + 1), .int .i64 ((N : Int) + 8), .int .i64 (N : Int), .slice (some ⟨g, off, none⟩) N (c + 1), .int .u64 A, .bool false, undef, undef, undef, undef, undef, undef, .int .i64 ((N : Int) + 8)], defers := [] } W := by
      intro W acc
      rw [← hR]
      have hcl := (acc.cell (p := ⟨g, off, none⟩) ltg).trans hcw
      refine wpAnyIn_ready (rs := [0, 4]) (by kernel_rfl) (by simp) ?_
      refine AllReadyIn.cons rfl (fun K hK => ?_) ?_
      · go_simp
        refine hK _ _ ?_
        have h := H10000010000 W acc
        rw [← hR] at h
        exact h
      refine AllReadyIn.cons rfl (fun K hK => ?_) ?_
      · go_simp
        refine hK _ _ ?_
        have h := H00001010000 W acc
        rw [← hR] at h
        exact h
      exact AllReadyIn.nil
    have H00000000000 : ∀ (W : World) (acc : Below w3.heap.size w3 W), R 11 #[false, false, false, false, false, false, false, false, false, false, false] { tmps := #[.slice (some ⟨g, off, none⟩) (len + 1) (c + 1), undef, .int .i64 0, v2, .int .i64 ((N : Int) + 8), .int .i64 0, .int .u64 (n : Int), .slice p5 m c5, v4, .slice (some ⟨g, off, none⟩) (len + 1) (c + 1), .int .i64 ((len : Int) + 1), .bool false, .slice (some ⟨g, off, none⟩) (len + 1) (c + 1), .pointer (some ⟨g, off, none⟩), .int .u8 x, .bool false, .tuple #[.int .u64 (n : Int), .slice p1 rl c1, .int .i64 0], .slice (some ⟨g, off, none⟩) (len + 1) (c + 1), .slice (some ⟨g, off + 1, none⟩) len c, .tuple #[.int .u64 (n : Int), .slice p1 rl c1, .int .i64 0], .int .u64 (n : Int), .slice p1 rl c1, .int .i64 0, .bool false, .int .i64 0, .bool false, undef, .bool (decide (4194304 < (n : Int))), .int .u64 (n : Int), .bool (decide (4194304 < (n : Int))), .bool (decide ((rl : Int) < (n : Int) + 8)), .slice p1 rl c1, .int .i64 (rl : Int), .int .u64 (n : Int), .int .i64 (n : Int), .int .i64 ((n : Int) + 8), .bool (decide ((rl : Int) < (n : Int) + 8)), .tuple #[v2, v3], .slice p1 rl c1, .int .u64 (n : Int), .int .i64 (n : Int), .tuple #[v2, v3], v2, v3, .tuple #[v4, .slice p5 m c5], v3, .tuple #[v4, .slice p5 m c5], v4, .slice p5 m c5, .slice (some ⟨g, off, none⟩) (len + 1) (c + 1), .int .i64 ((len : Int) + 1), .slice p5 m c5, .int .i64 (m : Int), .int .i64 ((N : Int) + 8), v4, .int .u64 A, .slice (some ⟨g, off, none⟩) (len + 1) (c + 1), .int .i64 ((N : Int) + 8), .int .i64 (N : Int), .slice (some ⟨g, off, none⟩) N (c + 1), .int .u64 A, .bool false, undef, undef, undef, undef, undef, undef, undef], defers := [] } W := by
      intro W acc
      rw [← hR]
      have hcl := (acc.cell (p := ⟨g, off, none⟩) ltg).trans hcw
      refine wpAnyIn_ready (rs := [0, 4, 6]) (by kernel_rfl) (by simp) ?_
      refine AllReadyIn.cons rfl (fun K hK => ?_) ?_
      · go_simp
        refine hK _ _ ?_
        have h := H10000000000 W acc
        rw [← hR] at h
        exact h
      refine AllReadyIn.cons rfl (fun K hK => ?_) ?_
      · go_simp
        refine hK _ _ ?_
        have h := H00001000000 W acc
        rw [← hR] at h
        exact h
      refine AllReadyIn.cons rfl (fun K hK => ?_) ?_
      · go_simp
        refine hK _ _ ?_
        have h := H00000010000 W acc
        rw [← hR] at h
        exact h
      exact AllReadyIn.nil
    exact H00000000000 _ acc.drew
  have H11111110 : ∀ (W : World) (acc : Below w3.heap.size w3 W), R 1 #[true, true, true, true, true, true, true, false] { tmps := #[.slice (some ⟨g, off, none⟩) (len + 1) (c + 1), undef, .int .i64 0, v2, .int .i64 ((N : Int) + 8), .int .i64 0, .int .u64 (n : Int), .slice p5 m c5, v4, .slice (some ⟨g, off, none⟩) (len + 1) (c + 1), .int .i64 ((len : Int) + 1), .bool false, .slice (some ⟨g, off, none⟩) (len + 1) (c + 1), .pointer (some ⟨g, off, none⟩), .int .u8 x, .bool false, .tuple #[.int .u64 (n : Int), .slice p1 rl c1, .int .i64 0], .slice (some ⟨g, off, none⟩) (len + 1) (c + 1), .slice (some ⟨g, off + 1, none⟩) len c, .tuple #[.int .u64 (n : Int), .slice p1 rl c1, .int .i64 0], .int .u64 (n : Int), .slice p1 rl c1, .int .i64 0, .bool false, .int .i64 0, .bool false, undef, .bool (decide (4194304 < (n : Int))), .int .u64 (n : Int), .bool (decide (4194304 < (n : Int))), .bool (decide ((rl : Int) < (n : Int) + 8)), .slice p1 rl c1, .int .i64 (rl : Int), .int .u64 (n : Int), .int .i64 (n : Int), .int .i64 ((n : Int) + 8), .bool (decide ((rl : Int) < (n : Int) + 8)), .tuple #[v2, v3], .slice p1 rl c1, .int .u64 (n : Int), .int .i64 (n : Int), .tuple #[v2, v3], v2, v3, .tuple #[v4, .slice p5 m c5], v3, .tuple #[v4, .slice p5 m c5], v4, .slice p5 m c5, .slice (some ⟨g, off, none⟩) (len + 1) (c + 1), .int .i64 ((len : Int) + 1), .slice p5 m c5, .int .i64 (m : Int), .int .i64 ((N : Int) + 8), v4, .int .u64 A, .slice (some ⟨g, off, none⟩) (len + 1) (c + 1), .int .i64 ((N : Int) + 8), .int .i64 (N : Int), .slice (some ⟨g, off, none⟩) N (c + 1), .int .u64 A, undef, undef, undef, undef, undef, undef, undef, undef], defers := [] } W := by
    intro W acc
    rw [← hR]
    refine wpAnyIn_ready (rs := [7]) (by kernel_rfl) (by simp) ?_
    refine AllReadyIn.cons rfl (fun K hK => ?_) ?_
    · go_simp
      refine hK _ _ ?_
      have h := H11111111 W acc
      rw [← hR] at h
      exact h
    exact AllReadyIn.nil
  have H11111100 : ∀ (W : World) (acc : Below w3.heap.size w3 W), R 2 #[true, true, true, true, true, true, false, false] { tmps := #[.slice (some ⟨g, off, none⟩) (len + 1) (c + 1), undef, .int .i64 0, v2, .int .i64 ((N : Int) + 8), .int .i64 0, .int .u64 (n : Int), .slice p5 m c5, v4, .slice (some ⟨g, off, none⟩) (len + 1) (c + 1), .int .i64 ((len : Int) + 1), .bool false, .slice (some ⟨g, off, none⟩) (len + 1) (c + 1), .pointer (some ⟨g, off, none⟩), .int .u8 x, .bool false, .tuple #[.int .u64 (n : Int), .slice p1 rl c1, .int .i64 0], .slice (some ⟨g, off, none⟩) (len + 1) (c + 1), .slice (some ⟨g, off + 1, none⟩) len c, .tuple #[.int .u64 (n : Int), .slice p1 rl c1, .int .i64 0], .int .u64 (n : Int), .slice p1 rl c1, .int .i64 0, .bool false, .int .i64 0, .bool false, undef, .bool (decide (4194304 < (n : Int))), .int .u64 (n : Int), .bool (decide (4194304 < (n : Int))), .bool (decide ((rl : Int) < (n : Int) + 8)), .slice p1 rl c1, .int .i64 (rl : Int), .int .u64 (n : Int), .int .i64 (n : Int), .int .i64 ((n : Int) + 8), .bool (decide ((rl : Int) < (n : Int) + 8)), .tuple #[v2, v3], .slice p1 rl c1, .int .u64 (n : Int), .int .i64 (n : Int), .tuple #[v2, v3], v2, v3, .tuple #[v4, .slice p5 m c5], v3, .tuple #[v4, .slice p5 m c5], v4, .slice p5 m c5, .slice (some ⟨g, off, none⟩) (len + 1) (c + 1), .int .i64 ((len : Int) + 1), .slice p5 m c5, .int .i64 (m : Int), .int .i64 ((N : Int) + 8), v4, .int .u64 A, .slice (some ⟨g, off, none⟩) (len + 1) (c + 1), .int .i64 ((N : Int) + 8), .int .i64 (N : Int), .slice (some ⟨g, off, none⟩) N (c + 1), undef, undef, undef, undef, undef, undef, undef, undef, undef], defers := [] } W := by
    intro W acc
    rw [← hR]
    refine wpAnyIn_ready (rs := [6]) (by kernel_rfl) (by simp) ?_
    refine AllReadyIn.cons rfl (fun K hK => ?_) ?_
    · go_simp
      gi_wp2_with (refine ⟨trivial, ?_⟩; gi_at_call 9; refine (callsIn_wide.2 (sm W (hv6.below acc))).mono ?_; rintro e W2 ⟨rfl, hb⟩; skip)
      have h := H11111110 W2 (below_accO acc acc.size hb)
      rw [← hR] at h
      exact h
    exact AllReadyIn.nil
  have H11111000 : ∀ (W : World) (acc : Below w3.heap.size w3 W), R 3 #[true, true, true, true, true, false, false, false] { tmps := #[.slice (some ⟨g, off, none⟩) (len + 1) (c + 1), undef, .int .i64 0, v2, .int .i64 ((N : Int) + 8), .int .i64 0, .int .u64 (n : Int), .slice p5 m c5, v4, .slice (some ⟨g, off, none⟩) (len + 1) (c + 1), .int .i64 ((len : Int) + 1), .bool false, .slice (some ⟨g, off, none⟩) (len + 1) (c + 1), .pointer (some ⟨g, off, none⟩), .int .u8 x, .bool false, .tuple #[.int .u64 (n : Int), .slice p1 rl c1, .int .i64 0], .slice (some ⟨g, off, none⟩) (len + 1) (c + 1), .slice (some ⟨g, off + 1, none⟩) len c, .tuple #[.int .u64 (n : Int), .slice p1 rl c1, .int .i64 0], .int .u64 (n : Int), .slice p1 rl c1, .int .i64 0, .bool false, .int .i64 0, .bool false, undef, .bool (decide (4194304 < (n : Int))), .int .u64 (n : Int), .bool (decide (4194304 < (n : Int))), .bool (decide ((rl : Int) < (n : Int) + 8)), .slice p1 rl c1, .int .i64 (rl : Int), .int .u64 (n : Int), .int .i64 (n : Int), .int .i64 ((n : Int) + 8), .bool (decide ((rl : Int) < (n : Int) + 8)), .tuple #[v2, v3], .slice p1 rl c1, .int .u64 (n : Int), .int .i64 (n : Int), .tuple #[v2, v3], v2, v3, .tuple #[v4, .slice p5 m c5], v3, .tuple #[v4, .slice p5 m c5], v4, .slice p5 m c5, .slice (some ⟨g, off, none⟩) (len + 1) (c + 1), .int .i64 ((len : Int) + 1), .slice p5 m c5, .int .i64 (m : Int), .int .i64 ((N : Int) + 8), v4, .int .u64 A, .slice (some ⟨g, off, none⟩) (len + 1) (c + 1), .int .i64 ((N : Int) + 8), .int .i64 (N : Int), undef, undef, undef, undef, undef, undef, undef, undef, undef, undef], defers := [] } W := by
    intro W acc
    rw [← hR]
    refine wpAnyIn_ready (rs := [5]) (by kernel_rfl) (by simp) ?_
    refine AllReadyIn.cons rfl (fun K hK => ?_) ?_
    · go_simp
      refine hK _ _ ?_
      have h := H11111100 W acc
      rw [← hR] at h
      exact h
    exact AllReadyIn.nil
  have H11110000 : ∀ (W : World) (acc : Below w3.heap.size w3 W), R 4 #[true, true, true, true, false, false, false, false] { tmps := #[.slice (some ⟨g, off, none⟩) (len + 1) (c + 1), undef, .int .i64 0, v2, .int .i64 ((N : Int) + 8), .int .i64 0, .int .u64 (n : Int), .slice p5 m c5, v4, .slice (some ⟨g, off, none⟩) (len + 1) (c + 1), .int .i64 ((len : Int) + 1), .bool false, .slice (some ⟨g, off, none⟩) (len + 1) (c + 1), .pointer (some ⟨g, off, none⟩), .int .u8 x, .bool false, .tuple #[.int .u64 (n : Int), .slice p1 rl c1, .int .i64 0], .slice (some ⟨g, off, none⟩) (len + 1) (c + 1), .slice (some ⟨g, off + 1, none⟩) len c, .tuple #[.int .u64 (n : Int), .slice p1 rl c1, .int .i64 0], .int .u64 (n : Int), .slice p1 rl c1, .int .i64 0, .bool false, .int .i64 0, .bool false, undef, .bool (decide (4194304 < (n : Int))), .int .u64 (n : Int), .bool (decide (4194304 < (n : Int))), .bool (decide ((rl : Int) < (n : Int) + 8)), .slice p1 rl c1, .int .i64 (rl : Int), .int .u64 (n : Int), .int .i64 (n : Int), .int .i64 ((n : Int) + 8), .bool (decide ((rl : Int) < (n : Int) + 8)), .tuple #[v2, v3], .slice p1 rl c1, .int .u64 (n : Int), .int .i64 (n : Int), .tuple #[v2, v3], v2, v3, .tuple #[v4, .slice p5 m c5], v3, .tuple #[v4, .slice p5 m c5], v4, .slice p5 m c5, .slice (some ⟨g, off, none⟩) (len + 1) (c + 1), .int .i64 ((len : Int) + 1), .slice p5 m c5, .int .i64 (m : Int), .int .i64 ((N : Int) + 8), v4, .int .u64 A, .slice (some ⟨g, off, none⟩) (len + 1) (c + 1), .int .i64 ((N : Int) + 8), undef, undef, undef, undef, undef, undef, undef, undef, undef, undef, undef], defers := [] } W := by
    intro W acc
    rw [← hR]
    refine wpAnyIn_ready (rs := [4]) (by kernel_rfl) (by simp) ?_
    refine AllReadyIn.cons rfl (fun K hK => ?_) ?_
    · go_simp
      refine hK _ _ ?_
      have h := H11111000 W acc
      rw [← hR] at h
      exact h
    exact AllReadyIn.nil
  have H11100000 : ∀ (W : World) (acc : Below w3.heap.size w3 W), R 5 #[true, true, true, false, false, false, false, false] { tmps := #[.slice (some ⟨g, off, none⟩) (len + 1) (c + 1), undef, .int .i64 0, v2, .int .i64 ((N : Int) + 8), .int .i64 0, .int .u64 (n : Int), .slice p5 m c5, v4, .slice (some ⟨g, off, none⟩) (len + 1) (c + 1), .int .i64 ((len : Int) + 1), .bool false, .slice (some ⟨g, off, none⟩) (len + 1) (c + 1), .pointer (some ⟨g, off, none⟩), .int .u8 x, .bool false, .tuple #[.int .u64 (n : Int), .slice p1 rl c1, .int .i64 0], .slice (some ⟨g, off, none⟩) (len + 1) (c + 1), .slice (some ⟨g, off + 1, none⟩) len c, .tuple #[.int .u64 (n : Int), .slice p1 rl c1, .int .i64 0], .int .u64 (n : Int), .slice p1 rl c1, .int .i64 0, .bool false, .int .i64 0, .bool false, undef, .bool (decide (4194304 < (n : Int))), .int .u64 (n : Int), .bool (decide (4194304 < (n : Int))), .bool (decide ((rl : Int) < (n : Int) + 8)), .slice p1 rl c1, .int .i64 (rl : Int), .int .u64 (n : Int), .int .i64 (n : Int), .int .i64 ((n : Int) + 8), .bool (decide ((rl : Int) < (n : Int) + 8)), .tuple #[v2, v3], .slice p1 rl c1, .int .u64 (n : Int), .int .i64 (n : Int), .tuple #[v2, v3], v2, v3, .tuple #[v4, .slice p5 m c5], v3, .tuple #[v4, .slice p5 m c5], v4, .slice p5 m c5, .slice (some ⟨g, off, none⟩) (len + 1) (c + 1), .int .i64 ((len : Int) + 1), .slice p5 m c5, .int .i64 (m : Int), .int .i64 ((N : Int) + 8), v4, .int .u64 A, .slice (some ⟨g, off, none⟩) (len + 1) (c + 1), undef, undef, undef, undef, undef, undef, undef, undef, undef, undef, undef, undef], defers := [] } W := by
    intro W acc
    rw [← hR]
    refine wpAnyIn_ready (rs := [3]) (by kernel_rfl) (by simp) ?_
    refine AllReadyIn.cons rfl (fun K hK => ?_) ?_
    · go_simp
      refine hK _ _ ?_
      have h := H11110000 W acc
      rw [← hR] at h
      exact h
    exact AllReadyIn.nil
  have H11011000 : ∀ (W : World) (acc : Below w3.heap.size w3 W), R 4 #[true, true, false, true, true, false, false, false] { tmps := #[.slice (some ⟨g, off, none⟩) (len + 1) (c + 1), undef, .int .i64 0, v2, .int .i64 ((N : Int) + 8), .int .i64 0, .int .u64 (n : Int), .slice p5 m c5, v4, .slice (some ⟨g, off, none⟩) (len + 1) (c + 1), .int .i64 ((len : Int) + 1), .bool false, .slice (some ⟨g, off, none⟩) (len + 1) (c + 1), .pointer (some ⟨g, off, none⟩), .int .u8 x, .bool false, .tuple #[.int .u64 (n : Int), .slice p1 rl c1, .int .i64 0], .slice (some ⟨g, off, none⟩) (len + 1) (c + 1), .slice (some ⟨g, off + 1, none⟩) len c, .tuple #[.int .u64 (n : Int), .slice p1 rl c1, .int .i64 0], .int .u64 (n : Int), .slice p1 rl c1, .int .i64 0, .bool false, .int .i64 0, .bool false, undef, .bool (decide (4194304 < (n : Int))), .int .u64 (n : Int), .bool (decide (4194304 < (n : Int))), .bool (decide ((rl : Int) < (n : Int) + 8)), .slice p1 rl c1, .int .i64 (rl : Int), .int .u64 (n : Int), .int .i64 (n : Int), .int .i64 ((n : Int) + 8), .bool (decide ((rl : Int) < (n : Int) + 8)), .tuple #[v2, v3], .slice p1 rl c1, .int .u64 (n : Int), .int .i64 (n : Int), .tuple #[v2, v3], v2, v3, .tuple #[v4, .slice p5 m c5], v3, .tuple #[v4, .slice p5 m c5], v4, .slice p5 m c5, .slice (some ⟨g, off, none⟩) (len + 1) (c + 1), .int .i64 ((len : Int) + 1), .slice p5 m c5, .int .i64 (m : Int), .int .i64 ((N : Int) + 8), v4, .int .u64 A, undef, .int .i64 ((N : Int) + 8), .int .i64 (N : Int), undef, undef, undef, undef, undef, undef, undef, undef, undef, undef], defers := [] } W := by
    intro W acc
    rw [← hR]
    refine wpAnyIn_ready (rs := [2]) (by kernel_rfl) (by simp) ?_
    refine AllReadyIn.cons rfl (fun K hK => ?_) ?_
    · go_simp
      refine hK _ _ ?_
      have h := H11111000 W acc
      rw [← hR] at h
      exact h
    exact AllReadyIn.nil
  have H11010000 : ∀ (W : World) (acc : Below w3.heap.size w3 W), R 5 #[true, true, false, true, false, false, false, false] { tmps := #[.slice (some ⟨g, off, none⟩) (len + 1) (c + 1), undef, .int .i64 0, v2, .int .i64 ((N : Int) + 8), .int .i64 0, .int .u64 (n : Int), .slice p5 m c5, v4, .slice (some ⟨g, off, none⟩) (len + 1) (c + 1), .int .i64 ((len : Int) + 1), .bool false, .slice (some ⟨g, off, none⟩) (len + 1) (c + 1), .pointer (some ⟨g, off, none⟩), .int .u8 x, .bool false, .tuple #[.int .u64 (n : Int), .slice p1 rl c1, .int .i64 0], .slice (some ⟨g, off, none⟩) (len + 1) (c + 1), .slice (some ⟨g, off + 1, none⟩) len c, .tuple #[.int .u64 (n : Int), .slice p1 rl c1, .int .i64 0], .int .u64 (n : Int), .slice p1 rl c1, .int .i64 0, .bool false, .int .i64 0, .bool false, undef, .bool (decide (4194304 < (n : Int))), .int .u64 (n : Int), .bool (decide (4194304 < (n : Int))), .bool (decide ((rl : Int) < (n : Int) + 8)), .slice p1 rl c1, .int .i64 (rl : Int), .int .u64 (n : Int), .int .i64 (n : Int), .int .i64 ((n : Int) + 8), .bool (decide ((rl : Int) < (n : Int) + 8)), .tuple #[v2, v3], .slice p1 rl c1, .int .u64 (n : Int), .int .i64 (n : Int), .tuple #[v2, v3], v2, v3, .tuple #[v4, .slice p5 m c5], v3, .tuple #[v4, .slice p5 m c5], v4, .slice p5 m c5, .slice (some ⟨g, off, none⟩) (len + 1) (c + 1), .int .i64 ((len : Int) + 1), .slice p5 m c5, .int .i64 (m : Int), .int .i64 ((N : Int) + 8), v4, .int .u64 A, undef, .int .i64 ((N : Int) + 8), undef, undef, undef, undef, undef, undef, undef, undef, undef, undef, undef], defers := [] } W := by
    intro W acc
    rw [← hR]
    refine wpAnyIn_ready (rs := [2, 4]) (by kernel_rfl) (by simp) ?_
    refine AllReadyIn.cons rfl (fun K hK => ?_) ?_
    · go_simp
      refine hK _ _ ?_
      have h := H11110000 W acc
      rw [← hR] at h
      exact h
    refine AllReadyIn.cons rfl (fun K hK => ?_) ?_
    · go_simp
      refine hK _ _ ?_
      have h := H11011000 W acc
      rw [← hR] at h
      exact h
    exact AllReadyIn.nil
  have H11000000 : ∀ (W : World) (acc : Below w3.heap.size w3 W), R 6 #[true, true, false, false, false, false, false, false] { tmps := #[.slice (some ⟨g, off, none⟩) (len + 1) (c + 1), undef, .int .i64 0, v2, .int .i64 ((N : Int) + 8), .int .i64 0, .int .u64 (n : Int), .slice p5 m c5, v4, .slice (some ⟨g, off, none⟩) (len + 1) (c + 1), .int .i64 ((len : Int) + 1), .bool false, .slice (some ⟨g, off, none⟩) (len + 1) (c + 1), .pointer (some ⟨g, off, none⟩), .int .u8 x, .bool false, .tuple #[.int .u64 (n : Int), .slice p1 rl c1, .int .i64 0], .slice (some ⟨g, off, none⟩) (len + 1) (c + 1), .slice (some ⟨g, off + 1, none⟩) len c, .tuple #[.int .u64 (n : Int), .slice p1 rl c1, .int .i64 0], .int .u64 (n : Int), .slice p1 rl c1, .int .i64 0, .bool false, .int .i64 0, .bool false, undef, .bool (decide (4194304 < (n : Int))), .int .u64 (n : Int), .bool (decide (4194304 < (n : Int))), .bool (decide ((rl : Int) < (n : Int) + 8)), .slice p1 rl c1, .int .i64 (rl : Int), .int .u64 (n : Int), .int .i64 (n : Int), .int .i64 ((n : Int) + 8), .bool (decide ((rl : Int) < (n : Int) + 8)), .tuple #[v2, v3], .slice p1 rl c1, .int .u64 (n : Int), .int .i64 (n : Int), .tuple #[v2, v3], v2, v3, .tuple #[v4, .slice p5 m c5], v3, .tuple #[v4, .slice p5 m c5], v4, .slice p5 m c5, .slice (some ⟨g, off, none⟩) (len + 1) (c + 1), .int .i64 ((len : Int) + 1), .slice p5 m c5, .int .i64 (m : Int), .int .i64 ((N : Int) + 8), v4, .int .u64 A, undef, undef, undef, undef, undef, undef, undef, undef, undef, undef, undef, undef, undef], defers := [] } W := by
    intro W acc
    rw [← hR]
    refine wpAnyIn_ready (rs := [2, 3]) (by kernel_rfl) (by simp) ?_
    refine AllReadyIn.cons rfl (fun K hK => ?_) ?_
    · go_simp
      refine hK _ _ ?_
      have h := H11100000 W acc
      rw [← hR] at h
      exact h
    refine AllReadyIn.cons rfl (fun K hK => ?_) ?_
    · go_simp
      refine hK _ _ ?_
      have h := H11010000 W acc
      rw [← hR] at h
      exact h
    exact AllReadyIn.nil
  have H10111100 : ∀ (W : World) (acc : Below w3.heap.size w3 W), R 3 #[true, false, true, true, true, true, false, false] { tmps := #[.slice (some ⟨g, off, none⟩) (len + 1) (c + 1), undef, .int .i64 0, v2, .int .i64 ((N : Int) + 8), .int .i64 0, .int .u64 (n : Int), .slice p5 m c5, v4, .slice (some ⟨g, off, none⟩) (len + 1) (c + 1), .int .i64 ((len : Int) + 1), .bool false, .slice (some ⟨g, off, none⟩) (len + 1) (c + 1), .pointer (some ⟨g, off, none⟩), .int .u8 x, .bool false, .tuple #[.int .u64 (n : Int), .slice p1 rl c1, .int .i64 0], .slice (some ⟨g, off, none⟩) (len + 1) (c + 1), .slice (some ⟨g, off + 1, none⟩) len c, .tuple #[.int .u64 (n : Int), .slice p1 rl c1, .int .i64 0], .int .u64 (n : Int), .slice p1 rl c1, .int .i64 0, .bool false, .int .i64 0, .bool false, undef, .bool (decide (4194304 < (n : Int))), .int .u64 (n : Int), .bool (decide (4194304 < (n : Int))), .bool (decide ((rl : Int) < (n : Int) + 8)), .slice p1 rl c1, .int .i64 (rl : Int), .int .u64 (n : Int), .int .i64 (n : Int), .int .i64 ((n : Int) + 8), .bool (decide ((rl : Int) < (n : Int) + 8)), .tuple #[v2, v3], .slice p1 rl c1, .int .u64 (n : Int), .int .i64 (n : Int), .tuple #[v2, v3], v2, v3, .tuple #[v4, .slice p5 m c5], v3, .tuple #[v4, .slice p5 m c5], v4, .slice p5 m c5, .slice (some ⟨g, off, none⟩) (len + 1) (c + 1), .int .i64 ((len : Int) + 1), .slice p5 m c5, .int .i64 (m : Int), .int .i64 ((N : Int) + 8), v4, undef, .slice (some ⟨g, off, none⟩) (len + 1) (c + 1), .int .i64 ((N : Int) + 8), .int .i64 (N : Int), .slice (some ⟨g, off, none⟩) N (c + 1), undef, undef, undef, undef, undef, undef, undef, undef, undef], defers := [] } W := by
    intro W acc
    rw [← hR]
    refine wpAnyIn_ready (rs := [1]) (by kernel_rfl) (by simp) ?_
    refine AllReadyIn.cons rfl (fun K hK => ?_) ?_
    · go_simp
      gi_wp2_with (refine ⟨trivial, ?_⟩; gi_at_call 19; refine (callsIn_wide.2 (wd W (hv4.below acc))).mono ?_; rintro e W2 ⟨rfl, hb⟩; skip)
      have h := H11111100 W2 (below_accO acc acc.size hb)
      rw [← hR] at h
      exact h
    exact AllReadyIn.nil
  have H10111000 : ∀ (W : World) (acc : Below w3.heap.size w3 W), R 4 #[true, false, true, true, true, false, false, false] { tmps := #[.slice (some ⟨g, off, none⟩) (len + 1) (c + 1), undef, .int .i64 0, v2, .int .i64 ((N : Int) + 8), .int .i64 0, .int .u64 (n : Int), .slice p5 m c5, v4, .slice (some ⟨g, off, none⟩) (len + 1) (c + 1), .int .i64 ((len : Int) + 1), .bool false, .slice (some ⟨g, off, none⟩) (len + 1) (c + 1), .pointer (some ⟨g, off, none⟩), .int .u8 x, .bool false, .tuple #[.int .u64 (n : Int), .slice p1 rl c1, .int .i64 0], .slice (some ⟨g, off, none⟩) (len + 1) (c + 1), .slice (some ⟨g, off + 1, none⟩) len c, .tuple #[.int .u64 (n : Int), .slice p1 rl c1, .int .i64 0], .int .u64 (n : Int), .slice p1 rl c1, .int .i64 0, .bool false, .int .i64 0, .bool false, undef, .bool (decide (4194304 < (n : Int))), .int .u64 (n : Int), .bool (decide (4194304 < (n : Int))), .bool (decide ((rl : Int) < (n : Int) + 8)), .slice p1 rl c1, .int .i64 (rl : Int), .int .u64 (n : Int), .int .i64 (n : Int), .int .i64 ((n : Int) + 8), .bool (decide ((rl : Int) < (n : Int) + 8)), .tuple #[v2, v3], .slice p1 rl c1, .int .u64 (n : Int), .int .i64 (n : Int), .tuple #[v2, v3], v2, v3, .tuple #[v4, .slice p5 m c5], v3, .tuple #[v4, .slice p5 m c5], v4, .slice p5 m c5, .slice (some ⟨g, off, none⟩) (len + 1) (c + 1), .int .i64 ((len : Int) + 1), .slice p5 m c5, .int .i64 (m : Int), .int .i64 ((N : Int) + 8), v4, undef, .slice (some ⟨g, off, none⟩) (len + 1) (c + 1), .int .i64 ((N : Int) + 8), .int .i64 (N : Int), undef, undef, undef, undef, undef, undef, undef, undef, undef, undef], defers := [] } W := by
    intro W acc
    rw [← hR]
    refine wpAnyIn_ready (rs := [1, 5]) (by kernel_rfl) (by simp) ?_
    refine AllReadyIn.cons rfl (fun K hK => ?_) ?_
    · go_simp
      gi_wp2_with (refine ⟨trivial, ?_⟩; gi_at_call 19; refine (callsIn_wide.2 (wd W (hv4.below acc))).mono ?_; rintro e W2 ⟨rfl, hb⟩; skip)
      have h := H11111000 W2 (below_accO acc acc.size hb)
      rw [← hR] at h
      exact h
    refine AllReadyIn.cons rfl (fun K hK => ?_) ?_
    · go_simp
      refine hK _ _ ?_
      have h := H10111100 W acc
      rw [← hR] at h
      exact h
    exact AllReadyIn.nil
  have H10110000 : ∀ (W : World) (acc : Below w3.heap.size w3 W), R 5 #[true, false, true, true, false, false, false, false] { tmps := #[.slice (some ⟨g, off, none⟩) (len + 1) (c + 1), undef, .int .i64 0, v2, .int .i64 ((N : Int) + 8), .int .i64 0, .int .u64 (n : Int), .slice p5 m c5, v4, .slice (some ⟨g, off, none⟩) (len + 1) (c + 1), .int .i64 ((len : Int) + 1), .bool false, .slice (some ⟨g, off, none⟩) (len + 1) (c + 1), .pointer (some ⟨g, off, none⟩), .int .u8 x, .bool false, .tuple #[.int .u64 (n : Int), .slice p1 rl c1, .int .i64 0], .slice (some ⟨g, off, none⟩) (len + 1) (c + 1), .slice (some ⟨g, off + 1, none⟩) len c, .tuple #[.int .u64 (n : Int), .slice p1 rl c1, .int .i64 0], .int .u64 (n : Int), .slice p1 rl c1, .int .i64 0, .bool false, .int .i64 0, .bool false, undef, .bool (decide (4194304 < (n : Int))), .int .u64 (n : Int), .bool (decide (4194304 < (n : Int))), .bool (decide ((rl : Int) < (n : Int) + 8)), .slice p1 rl c1, .int .i64 (rl : Int), .int .u64 (n : Int), .int .i64 (n : Int), .int .i64 ((n : Int) + 8), .bool (decide ((rl : Int) < (n : Int) + 8)), .tuple #[v2, v3], .slice p1 rl c1, .int .u64 (n : Int), .int .i64 (n : Int), .tuple #[v2, v3], v2, v3, .tuple #[v4, .slice p5 m c5], v3, .tuple #[v4, .slice p5 m c5], v4, .slice p5 m c5, .slice (some ⟨g, off, none⟩) (len + 1) (c + 1), .int .i64 ((len : Int) + 1), .slice p5 m c5, .int .i64 (m : Int), .int .i64 ((N : Int) + 8), v4, undef, .slice (some ⟨g, off, none⟩) (len + 1) (c + 1), .int .i64 ((N : Int) + 8), undef, undef, undef, undef, undef, undef, undef, undef, undef, undef, undef], defers := [] } W := by
    intro W acc
    rw [← hR]
    refine wpAnyIn_ready (rs := [1, 4]) (by kernel_rfl) (by simp) ?_
    refine AllReadyIn.cons rfl (fun K hK => ?_) ?_
    · go_simp
      gi_wp2_with (refine ⟨trivial, ?_⟩; gi_at_call 19; refine (callsIn_wide.2 (wd W (hv4.below acc))).mono ?_; rintro e W2 ⟨rfl, hb⟩; skip)
      have h := H11110000 W2 (below_accO acc acc.size hb)
      rw [← hR] at h
      exact h
    refine AllReadyIn.cons rfl (fun K hK => ?_) ?_
    · go_simp
      refine hK _ _ ?_
      have h := H10111000 W acc
      rw [← hR] at h
      exact h
    exact AllReadyIn.nil
  have H10100000 : ∀ (W : World) (acc : Below w3.heap.size w3 W), R 6 #[true, false, true, false, false, false, false, false] { tmps := #[.slice (some ⟨g, off, none⟩) (len + 1) (c + 1), undef, .int .i64 0, v2, .int .i64 ((N : Int) + 8), .int .i64 0, .int .u64 (n : Int), .slice p5 m c5, v4, .slice (some ⟨g, off, none⟩) (len + 1) (c + 1), .int .i64 ((len : Int) + 1), .bool false, .slice (some ⟨g, off, none⟩) (len + 1) (c + 1), .pointer (some ⟨g, off, none⟩), .int .u8 x, .bool false, .tuple #[.int .u64 (n : Int), .slice p1 rl c1, .int .i64 0], .slice (some ⟨g, off, none⟩) (len + 1) (c + 1), .slice (some ⟨g, off + 1, none⟩) len c, .tuple #[.int .u64 (n : Int), .slice p1 rl c1, .int .i64 0], .int .u64 (n : Int), .slice p1 rl c1, .int .i64 0, .bool false, .int .i64 0, .bool false, undef, .bool (decide (4194304 < (n : Int))), .int .u64 (n : Int), .bool (decide (4194304 < (n : Int))), .bool (decide ((rl : Int) < (n : Int) + 8)), .slice p1 rl c1, .int .i64 (rl : Int), .int .u64 (n : Int), .int .i64 (n : Int), .int .i64 ((n : Int) + 8), .bool (decide ((rl : Int) < (n : Int) + 8)), .tuple #[v2, v3], .slice p1 rl c1, .int .u64 (n : Int), .int .i64 (n : Int), .tuple #[v2, v3], v2, v3, .tuple #[v4, .slice p5 m c5], v3, .tuple #[v4, .slice p5 m c5], v4, .slice p5 m c5, .slice (some ⟨g, off, none⟩) (len + 1) (c + 1), .int .i64 ((len : Int) + 1), .slice p5 m c5, .int .i64 (m : Int), .int .i64 ((N : Int) + 8), v4, undef, .slice (some ⟨g, off, none⟩) (len + 1) (c + 1), undef, undef, undef, undef, undef, undef, undef, undef, undef, undef, undef, undef], defers := [] } W := by
    intro W acc
    rw [← hR]
    refine wpAnyIn_ready (rs := [1, 3]) (by kernel_rfl) (by simp) ?_
    refine AllReadyIn.cons rfl (fun K hK => ?_) ?_
    · go_simp
      gi_wp2_with (refine ⟨trivial, ?_⟩; gi_at_call 19; refine (callsIn_wide.2 (wd W (hv4.below acc))).mono ?_; rintro e W2 ⟨rfl, hb⟩; skip)
      have h := H11100000 W2 (below_accO acc acc.size hb)
      rw [← hR] at h
      exact h
    refine AllReadyIn.cons rfl (fun K hK => ?_) ?_
    · go_simp
      refine hK _ _ ?_
      have h := H10110000 W acc
      rw [← hR] at h
      exact h
    exact AllReadyIn.nil
  have H10011000 : ∀ (W : World) (acc : Below w3.heap.size w3 W), R 5 #[true, false, false, true, true, false, false, false] { tmps := #[.slice (some ⟨g, off, none⟩) (len + 1) (c + 1), undef, .int .i64 0, v2, .int .i64 ((N : Int) + 8), .int .i64 0, .int .u64 (n : Int), .slice p5 m c5, v4, .slice (some ⟨g, off, none⟩) (len + 1) (c + 1), .int .i64 ((len : Int) + 1), .bool false, .slice (some ⟨g, off, none⟩) (len + 1) (c + 1), .pointer (some ⟨g, off, none⟩), .int .u8 x, .bool false, .tuple #[.int .u64 (n : Int), .slice p1 rl c1, .int .i64 0], .slice (some ⟨g, off, none⟩) (len + 1) (c + 1), .slice (some ⟨g, off + 1, none⟩) len c, .tuple #[.int .u64 (n : Int), .slice p1 rl c1, .int .i64 0], .int .u64 (n : Int), .slice p1 rl c1, .int .i64 0, .bool false, .int .i64 0, .bool false, undef, .bool (decide (4194304 < (n : Int))), .int .u64 (n : Int), .bool (decide (4194304 < (n : Int))), .bool (decide ((rl : Int) < (n : Int) + 8)), .slice p1 rl c1, .int .i64 (rl : Int), .int .u64 (n : Int), .int .i64 (n : Int), .int .i64 ((n : Int) + 8), .bool (decide ((rl : Int) < (n : Int) + 8)), .tuple #[v2, v3], .slice p1 rl c1, .int .u64 (n : Int), .int .i64 (n : Int), .tuple #[v2, v3], v2, v3, .tuple #[v4, .slice p5 m c5], v3, .tuple #[v4, .slice p5 m c5], v4, .slice p5 m c5, .slice (some ⟨g, off, none⟩) (len + 1) (c + 1), .int .i64 ((len : Int) + 1), .slice p5 m c5, .int .i64 (m : Int), .int .i64 ((N : Int) + 8), v4, undef, undef, .int .i64 ((N : Int) + 8), .int .i64 (N : Int), undef, undef, undef, undef, undef, undef, undef, undef, undef, undef], defers := [] } W := by
    intro W acc
    rw [← hR]
    refine wpAnyIn_ready (rs := [1, 2]) (by kernel_rfl) (by simp) ?_
    refine AllReadyIn.cons rfl (fun K hK => ?_) ?_
    · go_simp
      gi_wp2_with (refine ⟨trivial, ?_⟩; gi_at_call 19; refine (callsIn_wide.2 (wd W (hv4.below acc))).mono ?_; rintro e W2 ⟨rfl, hb⟩; skip)
      have h := H11011000 W2 (below_accO acc acc.size hb)
      rw [← hR] at h
      exact h
    refine AllReadyIn.cons rfl (fun K hK => ?_) ?_
    · go_simp
      refine hK _ _ ?_
      have h := H10111000 W acc
      rw [← hR] at h
      exact h
    exact AllReadyIn.nil
  have H10010000 : ∀ (W : World) (acc : Below w3.heap.size w3 W), R 6 #[true, false, false, true, false, false, false, false] { tmps := #[.slice (some ⟨g, off, none⟩) (len + 1) (c + 1), undef, .int .i64 0, v2, .int .i64 ((N : Int) + 8), .int .i64 0, .int .u64 (n : Int), .slice p5 m c5, v4, .slice (some ⟨g, off, none⟩) (len + 1) (c + 1), .int .i64 ((len : Int) + 1), .bool false, .slice (some ⟨g, off, none⟩) (len + 1) (c + 1), .pointer (some ⟨g, off, none⟩), .int .u8 x, .bool false, .tuple #[.int .u64 (n : Int), .slice p1 rl c1, .int .i64 0], .slice (some ⟨g, off, none⟩) (len + 1) (c + 1), .slice (some ⟨g, off + 1, none⟩) len c, .tuple #[.int .u64 (n : Int), .slice p1 rl c1, .int .i64 0], .int .u64 (n : Int), .slice p1 rl c1, .int .i64 0, .bool false, .int .i64 0, .bool false, undef, .bool (decide (4194304 < (n : Int))), .int .u64 (n : Int), .bool (decide (4194304 < (n : Int))), .bool (decide ((rl : Int) < (n : Int) + 8)), .slice p1 rl c1, .int .i64 (rl : Int), .int .u64 (n : Int), .int .i64 (n : Int), .int .i64 ((n : Int) + 8), .bool (decide ((rl : Int) < (n : Int) + 8)), .tuple #[v2, v3], .slice p1 rl c1, .int .u64 (n : Int), .int .i64 (n : Int), .tuple #[v2, v3], v2, v3, .tuple #[v4, .slice p5 m c5], v3, .tuple #[v4, .slice p5 m c5], v4, .slice p5 m c5, .slice (some ⟨g, off, none⟩) (len + 1) (c + 1), .int .i64 ((len : Int) + 1), .slice p5 m c5, .int .i64 (m : Int), .int .i64 ((N : Int) + 8), v4, undef, undef, .int .i64 ((N : Int) + 8), undef, undef, undef, undef, undef, undef, undef, undef, undef, undef, undef], defers := [] } W := by
    intro W acc
    rw [← hR]
    refine wpAnyIn_ready (rs := [1, 2, 4]) (by kernel_rfl) (by simp) ?_
    refine AllReadyIn.cons rfl (fun K hK => ?_) ?_
    · go_simp
      gi_wp2_with (refine ⟨trivial, ?_⟩; gi_at_call 19; refine (callsIn_wide.2 (wd W (hv4.below acc))).mono ?_; rintro e W2 ⟨rfl, hb⟩; skip)
      have h := H11010000 W2 (below_accO acc acc.size hb)
      rw [← hR] at h
      exact h
    refine AllReadyIn.cons rfl (fun K hK => ?_) ?_
    · go_simp
      refine hK _ _ ?_
      have h := H10110000 W acc
      rw [← hR] at h
      exact h
    refine AllReadyIn.cons rfl (fun K hK => ?_) ?_
    · go_simp
      refine hK _ _ ?_
      have h := H10011000 W acc
      rw [← hR] at h
      exact h
    exact AllReadyIn.nil
  have H10000000 : ∀ (W : World) (acc : Below w3.heap.size w3 W), R 7 #[true, false, false, false, false, false, false, false] { tmps := #[.slice (some ⟨g, off, none⟩) (len + 1) (c + 1), undef, .int .i64 0, v2, .int .i64 ((N : Int) + 8), .int .i64 0, .int .u64 (n : Int), .slice p5 m c5, v4, .slice (some ⟨g, off, none⟩) (len + 1) (c + 1), .int .i64 ((len : Int) + 1), .bool false, .slice (some ⟨g, off, none⟩) (len + 1) (c + 1), .pointer (some ⟨g, off, none⟩), .int .u8 x, .bool false, .tuple #[.int .u64 (n : Int), .slice p1 rl c1, .int .i64 0], .slice (some ⟨g, off, none⟩) (len + 1) (c + 1), .slice (some ⟨g, off + 1, none⟩) len c, .tuple #[.int .u64 (n : Int), .slice p1 rl c1, .int .i64 0], .int .u64 (n : Int), .slice p1 rl c1, .int .i64 0, .bool false, .int .i64 0, .bool false, undef, .bool (decide (4194304 < (n : Int))), .int .u64 (n : Int), .bool (decide (4194304 < (n : Int))), .bool (decide ((rl : Int) < (n : Int) + 8)), .slice p1 rl c1, .int .i64 (rl : Int), .int .u64 (n : Int), .int .i64 (n : Int), .int .i64 ((n : Int) + 8), .bool (decide ((rl : Int) < (n : Int) + 8)), .tuple #[v2, v3], .slice p1 rl c1, .int .u64 (n : Int), .int .i64 (n : Int), .tuple #[v2, v3], v2, v3, .tuple #[v4, .slice p5 m c5], v3, .tuple #[v4, .slice p5 m c5], v4, .slice p5 m c5, .slice (some ⟨g, off, none⟩) (len + 1) (c + 1), .int .i64 ((len : Int) + 1), .slice p5 m c5, .int .i64 (m : Int), .int .i64 ((N : Int) + 8), v4, undef, undef, undef, undef, undef, undef, undef, undef, undef, undef, undef, undef, undef, undef], defers := [] } W := by
    intro W acc
    rw [← hR]
    refine wpAnyIn_ready (rs := [1, 2, 3]) (by kernel_rfl) (by simp) ?_
    refine AllReadyIn.cons rfl (fun K hK => ?_) ?_
    · go_simp
      gi_wp2_with (refine ⟨trivial, ?_⟩; gi_at_call 19; refine (callsIn_wide.2 (wd W (hv4.below acc))).mono ?_; rintro e W2 ⟨rfl, hb⟩; skip)
      have h := H11000000 W2 (below_accO acc acc.size hb)
      rw [← hR] at h
      exact h
    refine AllReadyIn.cons rfl (fun K hK => ?_) ?_
    · go_simp
      refine hK _ _ ?_
      have h := H10100000 W acc
      rw [← hR] at h
      exact h
    refine AllReadyIn.cons rfl (fun K hK => ?_) ?_
    · go_simp
      refine hK _ _ ?_
      have h := H10010000 W acc
      rw [← hR] at h
      exact h
    exact AllReadyIn.nil
  have H00111100 : ∀ (W : World) (acc : Below w3.heap.size w3 W), R 4 #[false, false, true, true, true, true, false, false] { tmps := #[.slice (some ⟨g, off, none⟩) (len + 1) (c + 1), undef, .int .i64 0, v2, .int .i64 ((N : Int) + 8), .int .i64 0, .int .u64 (n : Int), .slice p5 m c5, v4, .slice (some ⟨g, off, none⟩) (len + 1) (c + 1), .int .i64 ((len : Int) + 1), .bool false, .slice (some ⟨g, off, none⟩) (len + 1) (c + 1), .pointer (some ⟨g, off, none⟩), .int .u8 x, .bool false, .tuple #[.int .u64 (n : Int), .slice p1 rl c1, .int .i64 0], .slice (some ⟨g, off, none⟩) (len + 1) (c + 1), .slice (some ⟨g, off + 1, none⟩) len c, .tuple #[.int .u64 (n : Int), .slice p1 rl c1, .int .i64 0], .int .u64 (n : Int), .slice p1 rl c1, .int .i64 0, .bool false, .int .i64 0, .bool false, undef, .bool (decide (4194304 < (n : Int))), .int .u64 (n : Int), .bool (decide (4194304 < (n : Int))), .bool (decide ((rl : Int) < (n : Int) + 8)), .slice p1 rl c1, .int .i64 (rl : Int), .int .u64 (n : Int), .int .i64 (n : Int), .int .i64 ((n : Int) + 8), .bool (decide ((rl : Int) < (n : Int) + 8)), .tuple #[v2, v3], .slice p1 rl c1, .int .u64 (n : Int), .int .i64 (n : Int), .tuple #[v2, v3], v2, v3, .tuple #[v4, .slice p5 m c5], v3, .tuple #[v4, .slice p5 m c5], v4, .slice p5 m c5, .slice (some ⟨g, off, none⟩) (len + 1) (c + 1), .int .i64 ((len : Int) + 1), .slice p5 m c5, .int .i64 (m : Int), .int .i64 ((N : Int) + 8), undef, undef, .slice (some ⟨g, off, none⟩) (len + 1) (c + 1), .int .i64 ((N : Int) + 8), .int .i64 (N : Int), .slice (some ⟨g, off, none⟩) N (c + 1), undef, undef, undef, undef, undef, undef, undef, undef, undef], defers := [] } W := by
    intro W acc
    rw [← hR]
    refine wpAnyIn_ready (rs := [0]) (by kernel_rfl) (by simp) ?_
    refine AllReadyIn.cons rfl (fun K hK => ?_) ?_
    · go_simp
      refine hK _ _ ?_
      have h := H10111100 W acc
      rw [← hR] at h
      exact h
    exact AllReadyIn.nil
  have H00111000 : ∀ (W : World) (acc : Below w3.heap.size w3 W), R 5 #[false, false, true, true, true, false, false, false] { tmps := #[.slice (some ⟨g, off, none⟩) (len + 1) (c + 1), undef, .int .i64 0, v2, .int .i64 ((N : Int) + 8), .int .i64 0, .int .u64 (n : Int), .slice p5 m c5, v4, .slice (some ⟨g, off, none⟩) (len + 1) (c + 1), .int .i64 ((len : Int) + 1), .bool false, .slice (some ⟨g, off, none⟩) (len + 1) (c + 1), .pointer (some ⟨g, off, none⟩), .int .u8 x, .bool false, .tuple #[.int .u64 (n : Int), .slice p1 rl c1, .int .i64 0], .slice (some ⟨g, off, none⟩) (len + 1) (c + 1), .slice (some ⟨g, off + 1, none⟩) len c, .tuple #[.int .u64 (n : Int), .slice p1 rl c1, .int .i64 0], .int .u64 (n : Int), .slice p1 rl c1, .int .i64 0, .bool false, .int .i64 0, .bool false, undef, .bool (decide (4194304 < (n : Int))), .int .u64 (n : Int), .bool (decide (4194304 < (n : Int))), .bool (decide ((rl : Int) < (n : Int) + 8)), .slice p1 rl c1, .int .i64 (rl : Int), .int .u64 (n : Int), .int .i64 (n : Int), .int .i64 ((n : Int) + 8), .bool (decide ((rl : Int) < (n : Int) + 8)), .tuple #[v2, v3], .slice p1 rl c1, .int .u64 (n : Int), .int .i64 (n : Int), .tuple #[v2, v3], v2, v3, .tuple #[v4, .slice p5 m c5], v3, .tuple #[v4, .slice p5 m c5], v4, .slice p5 m c5, .slice (some ⟨g, off, none⟩) (len + 1) (c + 1), .int .i64 ((len : Int) + 1), .slice p5 m c5, .int .i64 (m : Int), .int .i64 ((N : Int) + 8), undef, undef, .slice (some ⟨g, off, none⟩) (len + 1) (c + 1), .int .i64 ((N : Int) + 8), .int .i64 (N : Int), undef, undef, undef, undef, undef, undef, undef, undef, undef, undef], defers := [] } W := by
    intro W acc
    rw [← hR]
    refine wpAnyIn_ready (rs := [0, 5]) (by kernel_rfl) (by simp) ?_
    refine AllReadyIn.cons rfl (fun K hK => ?_) ?_
    · go_simp
      refine hK _ _ ?_
      have h := H10111000 W acc
      rw [← hR] at h
      exact h
    refine AllReadyIn.cons rfl (fun K hK => ?_) ?_
    · go_simp
      refine hK _ _ ?_
      have h := H00111100 W acc
      rw [← hR] at h
      exact h
    exact AllReadyIn.nil
  have H00110000 : ∀ (W : World) (acc : Below w3.heap.size w3 W), R 6 #[false, false, true, true, false, false, false, false] { tmps := #[.slice (some ⟨g, off, none⟩) (len + 1) (c + 1), undef, .int .i64 0, v2, .int .i64 ((N : Int) + 8), .int .i64 0, .int .u64 (n : Int), .slice p5 m c5, v4, .slice (some ⟨g, off, none⟩) (len + 1) (c + 1), .int .i64 ((len : Int) + 1), .bool false, .slice (some ⟨g, off, none⟩) (len + 1) (c + 1), .pointer (some ⟨g, off, none⟩), .int .u8 x, .bool false, .tuple #[.int .u64 (n : Int), .slice p1 rl c1, .int .i64 0], .slice (some ⟨g, off, none⟩) (len + 1) (c + 1), .slice (some ⟨g, off + 1, none⟩) len c, .tuple #[.int .u64 (n : Int), .slice p1 rl c1, .int .i64 0], .int .u64 (n : Int), .slice p1 rl c1, .int .i64 0, .bool false, .int .i64 0, .bool false, undef, .bool (decide (4194304 < (n : Int))), .int .u64 (n : Int), .bool (decide (4194304 < (n : Int))), .bool (decide ((rl : Int) < (n : Int) + 8)), .slice p1 rl c1, .int .i64 (rl : Int), .int .u64 (n : Int), .int .i64 (n : Int), .int .i64 ((n : Int) + 8), .bool (decide ((rl : Int) < (n : Int) + 8)), .tuple #[v2, v3], .slice p1 rl c1, .int .u64 (n : Int), .int .i64 (n : Int), .tuple #[v2, v3], v2, v3, .tuple #[v4, .slice p5 m c5], v3, .tuple #[v4, .slice p5 m c5], v4, .slice p5 m c5, .slice (some ⟨g, off, none⟩) (len + 1) (c + 1), .int .i64 ((len : Int) + 1), .slice p5 m c5, .int .i64 (m : Int), .int .i64 ((N : Int) + 8), undef, undef, .slice (some ⟨g, off, none⟩) (len + 1) (c + 1), .int .i64 ((N : Int) + 8), undef, undef, undef, undef, undef, undef, undef, undef, undef, undef, undef], defers := [] } W := by
    intro W acc
    rw [← hR]
    refine wpAnyIn_ready (rs := [0, 4]) (by kernel_rfl) (by simp) ?_
    refine AllReadyIn.cons rfl (fun K hK => ?_) ?_
    · go_simp
      refine hK _ _ ?_
      have h := H10110000 W acc
      rw [← hR] at h
      exact h
    refine AllReadyIn.cons rfl (fun K hK => ?_) ?_
    · go_simp
      refine hK _ _ ?_
      have h := H00111000 W acc
      rw [← hR] at h
      exact h
    exact AllReadyIn.nil
  have H00100000 : ∀ (W : World) (acc : Below w3.heap.size w3 W), R 7 #[false, false, true, false, false, false, false, false] { tmps := #[.slice (some ⟨g, off, none⟩) (len + 1) (c + 1), undef, .int .i64 0, v2, .int .i64 ((N : Int) + 8), .int .i64 0, .int .u64 (n : Int), .slice p5 m c5, v4, .slice (some ⟨g, off, none⟩) (len + 1) (c + 1), .int .i64 ((len : Int) + 1), .bool false, .slice (some ⟨g, off, none⟩) (len + 1) (c + 1), .pointer (some ⟨g, off, none⟩), .int .u8 x, .bool false, .tuple #[.int .u64 (n : Int), .slice p1 rl c1, .int .i64 0], .slice (some ⟨g, off, none⟩) (len + 1) (c + 1), .slice (some ⟨g, off + 1, none⟩) len c, .tuple #[.int .u64 (n : Int), .slice p1 rl c1, .int .i64 0], .int .u64 (n : Int), .slice p1 rl c1, .int .i64 0, .bool false, .int .i64 0, .bool false, undef, .bool (decide (4194304 < (n : Int))), .int .u64 (n : Int), .bool (decide (4194304 < (n : Int))), .bool (decide ((rl : Int) < (n : Int) + 8)), .slice p1 rl c1, .int .i64 (rl : Int), .int .u64 (n : Int), .int .i64 (n : Int), .int .i64 ((n : Int) + 8), .bool (decide ((rl : Int) < (n : Int) + 8)), .tuple #[v2, v3], .slice p1 rl c1, .int .u64 (n : Int), .int .i64 (n : Int), .tuple #[v2, v3], v2, v3, .tuple #[v4, .slice p5 m c5], v3, .tuple #[v4, .slice p5 m c5], v4, .slice p5 m c5, .slice (some ⟨g, off, none⟩) (len + 1) (c + 1), .int .i64 ((len : Int) + 1), .slice p5 m c5, .int .i64 (m : Int), .int .i64 ((N : Int) + 8), undef, undef, .slice (some ⟨g, off, none⟩) (len + 1) (c + 1), undef, undef, undef, undef, undef, undef, undef, undef, undef, undef, undef, undef], defers := [] } W := by
    intro W acc
    rw [← hR]
    refine wpAnyIn_ready (rs := [0, 3]) (by kernel_rfl) (by simp) ?_
    refine AllReadyIn.cons rfl (fun K hK => ?_) ?_
    · go_simp
      refine hK _ _ ?_
      have h := H10100000 W acc
      rw [← hR] at h
      exact h
    refine AllReadyIn.cons rfl (fun K hK => ?_) ?_
    · go_simp
      refine hK _ _ ?_
      have h := H00110000 W acc
      rw [← hR] at h
      exact h
    exact AllReadyIn.nil
  have H00011000 : ∀ (W : World) (acc : Below w3.heap.size w3 W), R 6 #[false, false, false, true, true, false, false, false] { tmps := #[.slice (some ⟨g, off, none⟩) (len + 1) (c + 1), undef, .int .i64 0, v2, .int .i64 ((N : Int) + 8), .int .i64 0, .int .u64 (n : Int), .slice p5 m c5, v4, .slice (some ⟨g, off, none⟩) (len + 1) (c + 1), .int .i64 ((len : Int) + 1), .bool false, .slice (some ⟨g, off, none⟩) (len + 1) (c + 1), .pointer (some ⟨g, off, none⟩), .int .u8 x, .bool false, .tuple #[.int .u64 (n : Int), .slice p1 rl c1, .int .i64 0], .slice (some ⟨g, off, none⟩) (len + 1) (c + 1), .slice (some ⟨g, off + 1, none⟩) len c, .tuple #[.int .u64 (n : Int), .slice p1 rl c1, .int .i64 0], .int .u64 (n : Int), .slice p1 rl c1, .int .i64 0, .bool false, .int .i64 0, .bool false, undef, .bool (decide (4194304 < (n : Int))), .int .u64 (n : Int), .bool (decide (4194304 < (n : Int))), .bool (decide ((rl : Int) < (n : Int) + 8)), .slice p1 rl c1, .int .i64 (rl : Int), .int .u64 (n : Int), .int .i64 (n : Int), .int .i64 ((n : Int) + 8), .bool (decide ((rl : Int) < (n : Int) + 8)), .tuple #[v2, v3], .slice p1 rl c1, .int .u64 (n : Int), .int .i64 (n : Int), .tuple #[v2, v3], v2, v3, .tuple #[v4, .slice p5 m c5], v3, .tuple #[v4, .slice p5 m c5], v4, .slice p5 m c5, .slice (some ⟨g, off, none⟩) (len + 1) (c + 1), .int .i64 ((len : Int) + 1), .slice p5 m c5, .int .i64 (m : Int), .int .i64 ((N : Int) + 8), undef, undef, undef, .int .i64 ((N : Int) + 8), .int .i64 (N : Int), undef, undef, undef, undef, undef, undef, undef, undef, undef, undef], defers := [] } W := by
    intro W acc
    rw [← hR]
    refine wpAnyIn_ready (rs := [0, 2]) (by kernel_rfl) (by simp) ?_
    refine AllReadyIn.cons rfl (fun K hK => ?_) ?_
    · go_simp
      refine hK _ _ ?_
      have h := H10011000 W acc
      rw [← hR] at h
      exact h
    refine AllReadyIn.cons rfl (fun K hK => ?_) ?_
    · go_simp
      refine hK _ _ ?_
      have h := H00111000 W acc
      rw [← hR] at h
      exact h
    exact AllReadyIn.nil
  have H00010000 : ∀ (W : World) (acc : Below w3.heap.size w3 W), R 7 #[false, false, false, true, false, false, false, false] { tmps := #[.slice (some ⟨g, off, none⟩) (len + 1) (c + 1), undef, .int .i64 0, v2, .int .i64 ((N : Int) + 8), .int .i64 0, .int .u64 (n : Int), .slice p5 m c5, v4, .slice (some ⟨g, off, none⟩) (len + 1) (c + 1), .int .i64 ((len : Int) + 1), .bool false, .slice (some ⟨g, off, none⟩) (len + 1) (c + 1), .pointer (some ⟨g, off, none⟩), .int .u8 x, .bool false, .tuple #[.int .u64 (n : Int), .slice p1 rl c1, .int .i64 0], .slice (some ⟨g, off, none⟩) (len + 1) (c + 1), .slice (some ⟨g, off + 1, none⟩) len c, .tuple #[.int .u64 (n : Int), .slice p1 rl c1, .int .i64 0], .int .u64 (n : Int), .slice p1 rl c1, .int .i64 0, .bool false, .int .i64 0, .bool false, undef, .bool (decide (4194304 < (n : Int))), .int .u64 (n : Int), .bool (decide (4194304 < (n : Int))), .bool (decide ((rl : Int) < (n : Int) + 8)), .slice p1 rl c1, .int .i64 (rl : Int), .int .u64 (n : Int), .int .i64 (n : Int), .int .i64 ((n : Int) + 8), .bool (decide ((rl : Int) < (n : Int) + 8)), .tuple #[v2, v3], .slice p1 rl c1, .int .u64 (n : Int), .int .i64 (n : Int), .tuple #[v2, v3], v2, v3, .tuple #[v4, .slice p5 m c5], v3, .tuple #[v4, .slice p5 m c5], v4, .slice p5 m c5, .slice (some ⟨g, off, none⟩) (len + 1) (c + 1), .int .i64 ((len : Int) + 1), .slice p5 m c5, .int .i64 (m : Int), .int .i64 ((N : Int) + 8), undef, undef, undef, .int .i64 ((N : Int) + 8), undef, undef, undef, undef, undef, undef, undef, undef, undef, undef, undef], defers := [] } W := by
    intro W acc
    rw [← hR]
    refine wpAnyIn_ready (rs := [0, 2, 4]) (by kernel_rfl) (by simp) ?_
    refine AllReadyIn.cons rfl (fun K hK => ?_) ?_
    · go_simp
      refine hK _ _ ?_
      have h := H10010000 W acc
      rw [← hR] at h
      exact h
    refine AllReadyIn.cons rfl (fun K hK => ?_) ?_
    · go_simp
      refine hK _ _ ?_
      have h := H00110000 W acc
      rw [← hR] at h
      exact h
    refine AllReadyIn.cons rfl (fun K hK => ?_) ?_
    · go_simp
      refine hK _ _ ?_
      have h := H00011000 W acc
      rw [← hR] at h
      exact h
    exact AllReadyIn.nil
  have H00000000 : ∀ (W : World) (acc : Below w3.heap.size w3 W), R 8 #[false, false, false, false, false, false, false, false] { tmps := #[.slice (some ⟨g, off, none⟩) (len + 1) (c + 1), undef, .int .i64 0, v2, .int .i64 ((N : Int) + 8), .int .i64 0, .int .u64 (n : Int), .slice p5 m c5, v4, .slice (some ⟨g, off, none⟩) (len + 1) (c + 1), .int .i64 ((len : Int) + 1), .bool false, .slice (some ⟨g, off, none⟩) (len + 1) (c + 1), .pointer (some ⟨g, off, none⟩), .int .u8 x, .bool false, .tuple #[.int .u64 (n : Int), .slice p1 rl c1, .int .i64 0], .slice (some ⟨g, off, none⟩) (len + 1) (c + 1), .slice (some ⟨g, off + 1, none⟩) len c, .tuple #[.int .u64 (n : Int), .slice p1 rl c1, .int .i64 0], .int .u64 (n : Int), .slice p1 rl c1, .int .i64 0, .bool false, .int .i64 0, .bool false, undef, .bool (decide (4194304 < (n : Int))), .int .u64 (n : Int), .bool (decide (4194304 < (n : Int))), .bool (decide ((rl : Int) < (n : Int) + 8)), .slice p1 rl c1, .int .i64 (rl : Int), .int .u64 (n : Int), .int .i64 (n : Int), .int .i64 ((n : Int) + 8), .bool (decide ((rl : Int) < (n : Int) + 8)), .tuple #[v2, v3], .slice p1 rl c1, .int .u64 (n : Int), .int .i64 (n : Int), .tuple #[v2, v3], v2, v3, .tuple #[v4, .slice p5 m c5], v3, .tuple #[v4, .slice p5 m c5], v4, .slice p5 m c5, .slice (some ⟨g, off, none⟩) (len + 1) (c + 1), .int .i64 ((len : Int) + 1), .slice p5 m c5, .int .i64 (m : Int), .int .i64 ((N : Int) + 8), undef, undef, undef, undef, undef, undef, undef, undef, undef, undef, undef, undef, undef, undef, undef], defers := [] } W := by
    intro W acc
    rw [← hR]
    refine wpAnyIn_ready (rs := [0, 2, 3]) (by kernel_rfl) (by simp) ?_
    refine AllReadyIn.cons rfl (fun K hK => ?_) ?_
    · go_simp
      refine hK _ _ ?_
      have h := H10000000 W acc
      rw [← hR] at h
      exact h
    refine AllReadyIn.cons rfl (fun K hK => ?_) ?_
    · go_simp
      refine hK _ _ ?_
      have h := H00100000 W acc
      rw [← hR] at h
      exact h
    refine AllReadyIn.cons rfl (fun K hK => ?_) ?_
    · go_simp
      refine hK _ _ ?_
      have h := H00010000 W acc
      rw [← hR] at h
      exact h
    exact AllReadyIn.nil
  exact H00000000 w3.drew (Below.refl _ w3).drew
end Go.Proofs.YtkggglhnhlclmaaDoor
