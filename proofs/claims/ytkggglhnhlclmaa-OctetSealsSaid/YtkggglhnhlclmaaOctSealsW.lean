/- OctetSeals, walked. -/
import Derived.Test.YtkggglhnhlclmaaOctX
import Derived.Test.YtkggglhnhlclmaaOctW
namespace Go.Proofs.Ytkggglhnhlclmaa
open Go.RowKit
set_option linter.unusedVariables false

theorem xor_byte {x y : Int} (hx : 0 ≤ x ∧ x < 256) (hy : 0 ≤ y ∧ y < 256) : 0 ≤ bits .xor .u8 x y ∧ bits .xor .u8 x y < 256 := by
  show 0 ≤ IntKind.u8.wrap _ ∧ IntKind.u8.wrap _ < 256
  rw [IntKind.wrap_u8]
  omega
set_option maxRecDepth 100000 in
set_option maxHeartbeats 8000000 in
theorem octetSeals_walk0 (kind how at' by' : Int) (v1 v2 v3 : Value) (l1 l2 l3 : List Int) (w : World) (h1 : Bs w v1 l1) (h2 : Bs w v2 l2) (h3 : Bs w v3 l3) (hl3 : l3.length ≤ 140737488355328)
    (bk : -9223372036854775808 ≤ kind ∧ kind ≤ 9223372036854775807) (bh : -9223372036854775808 ≤ how ∧ how ≤ 9223372036854775807) (bp : -9223372036854775808 ≤ at' ∧ at' ≤ 9223372036854775807) (hb : 0 ≤ by' ∧ by' < 256) :
    Calls Try.prog 3 #[.int .i64 kind, v1, v2, v3, .int .i64 how, .int .i64 at', .int .u8 by'] w fun e w' => e = .returned (.bool true) ∧ Below w.heap.size w w' := by
  obtain ⟨p1, c1, rfl⟩ := h1.shape
  obtain ⟨p2, c2, rfl⟩ := h2.shape
  obtain ⟨p3, c3, rfl⟩ := h3.shape
  obtain ⟨m1, hm1⟩ : ∃ m1, l1.length = m1 := ⟨_, rfl⟩
  obtain ⟨m2, hm2⟩ : ∃ m2, l2.length = m2 := ⟨_, rfl⟩
  obtain ⟨m3, hm3⟩ : ∃ m3, l3.length = m3 := ⟨_, rfl⟩
  rw [hm1] at h1 ⊢
  rw [hm2] at h2 ⊢
  rw [hm3] at h3 hl3 ⊢
  go_enter Try.func3, Try.ntmps3
  go_wp2_with fail
  refine (pick_o kind 258 bk.1 bk.2 (by decide) (by decide) w).mono ?_
  rintro e w' ⟨⟨q, hq, rfl⟩, rfl⟩
  obtain ⟨k, hk⟩ : ∃ k : Int, (q : Int) - 1 = k := ⟨_, rfl⟩
  have hkb : -1 ≤ k ∧ k ≤ 256 := by omega
  go_wp2_with fail
  refine (few_wide 3000 (by decide) (by decide) _ l1 w h1).mono ?_
  rintro e wf ⟨vb, rfl, hob, bb⟩
  have hbl : (l1.take (3000 : Int).toNat).length ≤ 3000 := by rw [List.length_take]; exact Nat.min_le_left _ _
  have hbo : Octs (l1.take (3000 : Int).toNat) := h1.octs.take _
  obtain ⟨T, hT⟩ : ∃ T, l1.take (3000 : Int).toNat = T := ⟨_, rfl⟩
  rw [hT] at hob hbl hbo
  have hbs := hob.bs hbo (by omega)
  replace h1 := h1.below bb
  replace h2 := h2.below bb
  replace h3 := h3.below bb
  by_cases hbad : k < 1 ∨ 255 < k
  · clear hT hm1 hm2 hm3 hk hob hbs
    go_wp2_with fail
    refine (seal_arg k hbad vb wf).mono ?_
    rintro e w2 ⟨rfl, rfl⟩
    rcases hbad with hk1 | hk1
    · go_wp2_with fail
      refine (known4_true wf).mono ?_
      rintro e w3 ⟨rfl, b3⟩
      go_wp2_with fail
      go_ret
      exact ⟨rfl, bb.trans (b3.mono bb.size)⟩
    · have hk0 : ¬ k < 1 := by omega
      go_wp2_with fail
      refine (known4_true wf).mono ?_
      rintro e w3 ⟨rfl, b3⟩
      go_wp2_with fail
      go_ret
      exact ⟨rfl, bb.trans (b3.mono bb.size)⟩
  · have hk1 : 1 ≤ k ∧ k ≤ 255 := by omega
    have nk1 : ¬ k < 1 := by omega
    have nk2 : ¬ (255 : Int) < k := by omega
    have so : Octs (sealed k T) := (recd_octs hk1 hbo).app (be8_octs (fnv_word f0_word _))
    have sl := sealed_len k T
    have cl := cnt_len T.length 2 (by omega)
    have sg := seal_any k hk1 vb T (by omega) wf hbs
    unfold RetSeal at sg
    have rs := fun v W (g : Bs W v T) => refSeal_any k hk1 v T (by omega) W g
    obtain ⟨X0, hX0⟩ : ∃ X, sealed k T = X := ⟨_, rfl⟩
    rw [hX0] at so sl sg
    simp only [hX0] at rs
    obtain ⟨n, hn⟩ : ∃ n, X0.length = n := ⟨_, rfl⟩
    rw [hn] at sg sl
    have hn1 : 1 ≤ n ∧ n ≤ 4000 := by omega
    have Hn := Lib.hid hn
    have HT := Lib.hid hT
    have Hm1 := Lib.hid hm1
    have Hm2 := Lib.hid hm2
    have Hm3 := Lib.hid hm3
    have Hk := Lib.hid hk
    have Hbp := Lib.hid bp
    have Hbh := Lib.hid bh
    clear hn hT hm1 hm2 hm3 hk sl cl hX0 hob hbs hbad
    go_wp2_with fail
    refine sg.mono ?_
    rintro e w2 ⟨g, z, rfl, hA, hg, b2⟩
    replace h1 := h1.below b2
    replace h2 := h2.below b2
    replace h3 := h3.below b2
    have B2 := bb.trans (b2.mono bb.size)
    have sz2 := B2.size
    have hbs2 : Bs w2 (.slice (some ⟨g, 0, none⟩) n n) X0 := by
      have := Bs.arr (n := n) (c := n) hA (by rw [List.length_append, Hn.out]; omega) (Nat.le_refl _) (by omega) (by rw [← Hn.out, List.take_left]; exact so)
      rwa [← Hn.out, List.take_left, Hn.out] at this
    clear hA sg bb b2
    go_wp2_with fail
    refine (few_wide 3000 (by decide) (by decide) _ l1 w2 h1).mono ?_
    rintro e w3 ⟨vb2, rfl, hob2, b3⟩
    rw [HT.out] at hob2
    have hbs3 := hob2.bs hbo (by omega)
    replace h2 := h2.below b3
    replace h3 := h3.below b3
    replace hbs2 := hbs2.below b3
    have B3 := B2.trans (b3.mono sz2)
    have sz3 := B3.size
    clear h1 hob2 B2 b3
    go_wp2_with fail
    refine (rs vb2 w3 hbs3).mono ?_
    rintro e w4 ⟨v', rfl, ho4, b4⟩
    replace h2 := h2.below b4
    replace h3 := h3.below b4
    replace hbs2 := hbs2.below b4
    have B4 := B3.trans (b4.mono sz3)
    have sz4 := B4.size
    have lt4 : w.heap.size ≤ w3.heap.size := sz3
    have sz34 := b4.size
    clear hbs3 rs B3 b4
    go_wp2_with fail
    refine (known4_true w4).mono ?_
    rintro e w5 ⟨rfl, b5⟩
    replace h2 := h2.below b5
    replace h3 := h3.below b5
    replace hbs2 := hbs2.below b5
    have ho5 : Own w5 w3.heap.size .u8 5 v' X0 := by
      rcases ho4 with ⟨rfl, rfl⟩ | ⟨b, y, rfl, ha, hbB⟩
      · exact .inl ⟨rfl, rfl⟩
      · exact .inr ⟨b, y, rfl, ha.below b5 ha.lt, hbB⟩
    have B5 := B4.trans (b5.mono sz4)
    have sz5 := B5.size
    have sz35 : w3.heap.size ≤ w5.heap.size := Nat.le_trans sz34 b5.size
    have ho5s := ho5.bs so (by rw [Hn.out]; omega)
    have cs1 := str_bs hbs2
    have cs2 := str_bs ho5s
    obtain ⟨b, y, rfl, ha5, hbB⟩ : ∃ b y, v' = .slice (some ⟨b, 0, none⟩) n (n + y) ∧ Arr w5 b 5 .u8 (X0 ++ List.replicate y 0) ∧ w3.heap.size ≤ b := by
      rcases ho5 with ⟨_, e⟩ | ⟨b, y, rfl, ha, hbB⟩
      · have := Hn.out; rw [e] at this; simp at this; omega
      · exact ⟨b, y, by rw [Hn.out], ha, hbB⟩
    clear ho4 B4 b5 hbs2 ho5
    go_wp2_with fail
    refine (sum_bs _ l2 w5 h2).mono ?_
    rintro e w6 ⟨rfl, rfl⟩
    go_wp2_with fail
    refine (refSum_bs _ l2 w5 h2).mono ?_
    rintro e w6 ⟨rfl, rfl⟩
    clear cs1 cs2
    go_wp2_with fail
    refine (pick_o how 5 Hbh.out.1 Hbh.out.2 (by decide) (by decide) w5).mono ?_
    rintro e w6 ⟨⟨u, hu, rfl⟩, rfl⟩
    rcases (show u = 0 ∨ u = 1 ∨ u = 2 ∨ u = 3 ∨ u = 4 by omega) with h5 | h5 | h5 | h5 | h5
    · -- Few of raw
      obtain rfl : u = 0 := by omega
      clear h3 ho5s ha5
      go_wp2_with fail
      refine (few_wide 3000 (by decide) (by decide) _ l2 w5 h2).mono ?_
      rintro e w7 ⟨v7, rfl, ho7, b7⟩
      have B7 := B5.trans (b7.mono sz5)
      have hll : (l2.take (3000 : Int).toNat).length ≤ 3000 := by rw [List.length_take]; exact Nat.min_le_left _ _
      have hoo := h2.octs.take (3000 : Int).toNat
      obtain ⟨X7, hX⟩ : ∃ X7, l2.take (3000 : Int).toNat = X7 := ⟨_, rfl⟩
      rw [hX] at ho7 hll hoo
      have hX7 := ho7.bs hoo (by omega)
      obtain ⟨p7, c7, rfl⟩ := hX7.shape
      obtain ⟨n7, hn7⟩ : ∃ n7, X7.length = n7 := ⟨_, rfl⟩
      rw [hn7] at hX7 hll ⊢
      have HL := Lib.hid hn7
      clear h2 B5 ho7 b7 hX hn7
      go_wp2_with fail
      refine (few_wide (n7 : Int) (by omega) (by omega) _ X7 w7 hX7).mono ?_
      rintro e wa ⟨va, rfl, hoa, ba⟩
      rw [Int.toNat_natCast, List.take_of_length_le (Nat.le_of_eq HL.out)] at hoa
      have hba := hoa.bs hX7.octs (by rw [HL.out]; omega)
      have hXa := hX7.below ba
      have Ba := B7.trans (ba.mono B7.size)
      rcases next_both X7 with ⟨E, e0, e1, hE⟩ | ⟨kk, nn, bd, hO⟩
      · clear hoa ba B7 hX7
        go_wp2_with fail
        refine (hE va wa hba).1.mono ?_
        rintro e wb ⟨rfl, b8⟩
        have hXb := hXa.below b8
        have Bb := Ba.trans (b8.mono Ba.size)
        go_wp2_with fail
        refine (hE _ wb hXb).2.mono ?_
        rintro e wc ⟨rfl, b9⟩
        have Bc := Bb.trans (b9.mono Bb.size)
        have hs := str_bs (Bs.nil wc)
        have we : IntKind.i64.wrap E = E := by rw [IntKind.wrap_i64]; omega
        clear hE hba hXa hXb Ba Bb b8 b9
        go_wp2_with fail
        go_ret
        exact ⟨rfl, Bc⟩
      · clear hoa ba B7 hX7
        go_wp2_with fail
        refine (hO va wa hba).1.mono ?_
        rintro e wb ⟨⟨vy, rfl, hy⟩, b8⟩
        have hXb := hXa.below b8
        have Bb := Ba.trans (b8.mono Ba.size)
        go_wp2_with fail
        refine (hO _ wb hXb).2.mono ?_
        rintro e wc ⟨⟨vz, rfl, hz⟩, b9⟩
        have Bc := Bb.trans (b9.mono Bb.size)
        have hs1 := str_bs (hy.below b9)
        have hs2 := str_bs hz
        clear hO hba hXa hXb Ba Bb b8 b9 hy hz
        go_wp2_with fail
        go_ret
        exact ⟨rfl, Bc⟩
    · -- one byte turned
      obtain rfl : u = 1 := by omega
      clear h3 ho5s h2
      go_wp2_with fail
      refine (pick_o at' (n : Int) Hbp.out.1 Hbp.out.2 (by omega) (by omega) w5).mono ?_
      rintro e w7 ⟨⟨i, hi, rfl⟩, rfl⟩
      have hin : i < n := by omega
      have hcell := ha5.cell i (by rw [List.length_append, Hn.out]; omega)
      have hfree := ha5.free i
      have ex : (X0 ++ List.replicate y 0).getD i 0 = X0.getD i 0 := by
        rw [List.getD_eq_getElem?_getD, List.getD_eq_getElem?_getD, List.getElem?_append_left (by rw [Hn.out]; omega)]
      rw [ex] at hcell
      have hx := so.getD i
      obtain ⟨x, hxe⟩ : ∃ x, X0.getD i 0 = x := ⟨_, rfl⟩
      rw [hxe] at hcell hx
      have hy2 := xor_byte hx hb
      obtain ⟨t, ht⟩ : ∃ t, bits .xor .u8 x by' = t := ⟨_, rfl⟩
      rw [ht] at hy2
      have hset := ha5.set i t
      rw [List.set_append_left _ _ (by rw [Hn.out]; exact hin)] at hset
      have hl7 : (X0.set i t).length = n := by rw [List.length_set, Hn.out]
      have ho7 : Octs (X0.set i t) := fun c hc => by
        rcases List.mem_or_eq_of_mem_set hc with hc | rfl
        · exact so c hc
        · exact hy2
      obtain ⟨X7, hX⟩ : ∃ X7, X0.set i t = X7 := ⟨_, rfl⟩
      rw [hX] at hset hl7 ho7
      have hX7 : Bs (w5.setCell ⟨b, i, none⟩ (.int .u8 t)) (.slice (some ⟨b, 0, none⟩) n (n + y)) X7 := by
        have := Bs.arr (n := n) (c := n + y) hset (by rw [List.length_append, hl7]; omega) (by omega) (by omega) (by rw [List.take_left' hl7]; exact ho7)
        rwa [List.take_left' hl7] at this
      have B7 := B5.setCell (p := ⟨b, i, none⟩) (show w.heap.size ≤ b by omega) (.int .u8 t)
      have HL := Lib.hid hl7
      have HX7 := Lib.hid hX7
      have HB7 := Lib.hid B7
      clear ha5 B5 hset hX hl7 hxe ex ho7 hX7 B7
      go_wp2_with fail
      have hX7 := HX7.out
      have B7 := HB7.out
      generalize w5.setCell ⟨b, i, none⟩ (.int .u8 t) = w7 at hX7 B7 ⊢
      clear hcell hfree HX7 HB7
      go_wp2_with fail
      refine (few_wide (n : Int) (by omega) (by omega) _ X7 w7 hX7).mono ?_
      rintro e wa ⟨va, rfl, hoa, ba⟩
      rw [Int.toNat_natCast, List.take_of_length_le (Nat.le_of_eq HL.out)] at hoa
      have hba := hoa.bs hX7.octs (by rw [HL.out]; omega)
      have hXa := hX7.below ba
      have Ba := B7.trans (ba.mono B7.size)
      rcases next_both X7 with ⟨E, e0, e1, hE⟩ | ⟨kk, nn, bd, hO⟩
      · clear hoa ba B7 hX7
        go_wp2_with fail
        refine (hE va wa hba).1.mono ?_
        rintro e wb ⟨rfl, b8⟩
        have hXb := hXa.below b8
        have Bb := Ba.trans (b8.mono Ba.size)
        go_wp2_with fail
        refine (hE _ wb hXb).2.mono ?_
        rintro e wc ⟨rfl, b9⟩
        have Bc := Bb.trans (b9.mono Bb.size)
        have hs := str_bs (Bs.nil wc)
        have we : IntKind.i64.wrap E = E := by rw [IntKind.wrap_i64]; omega
        clear hE hba hXa hXb Ba Bb b8 b9
        go_wp2_with fail
        go_ret
        exact ⟨rfl, Bc⟩
      · clear hoa ba B7 hX7
        go_wp2_with fail
        refine (hO va wa hba).1.mono ?_
        rintro e wb ⟨⟨vy, rfl, hy⟩, b8⟩
        have hXb := hXa.below b8
        have Bb := Ba.trans (b8.mono Ba.size)
        go_wp2_with fail
        refine (hO _ wb hXb).2.mono ?_
        rintro e wc ⟨⟨vz, rfl, hz⟩, b9⟩
        have Bc := Bb.trans (b9.mono Bb.size)
        have hs1 := str_bs (hy.below b9)
        have hs2 := str_bs hz
        clear hO hba hXa hXb Ba Bb b8 b9 hy hz
        go_wp2_with fail
        go_ret
        exact ⟨rfl, Bc⟩
    · -- cut
      obtain rfl : u = 2 := by omega
      clear h3 h2 ha5
      go_wp2_with fail
      refine (pick_o at' ((n : Int) + 1) Hbp.out.1 Hbp.out.2 (by omega) (by omega) w5).mono ?_
      rintro e w7 ⟨⟨i, hi, rfl⟩, rfl⟩
      have hin : i ≤ n := by omega
      have i1 : (i : Int) ≤ (n : Int) + (y : Int) := by omega
      have i2 : i ≤ n + y := by omega
      have hX7 := ho5s.front (n := i) hin
      have hl7 : (X0.take i).length = i := by rw [List.length_take, Hn.out]; omega
      have B7 := B5
      obtain ⟨X7, hX⟩ : ∃ X7, X0.take i = X7 := ⟨_, rfl⟩
      rw [hX] at hX7 hl7
      have HL := Lib.hid hl7
      clear ho5s B5 hX hl7 hi
      go_wp2_with fail
      refine (few_wide (i : Int) (by omega) (by omega) _ X7 w5 hX7).mono ?_
      rintro e wa ⟨va, rfl, hoa, ba⟩
      rw [Int.toNat_natCast, List.take_of_length_le (Nat.le_of_eq HL.out)] at hoa
      have hba := hoa.bs hX7.octs (by rw [HL.out]; omega)
      have hXa := hX7.below ba
      have Ba := B7.trans (ba.mono B7.size)
      rcases next_both X7 with ⟨E, e0, e1, hE⟩ | ⟨kk, nn, bd, hO⟩
      · clear hoa ba B7 hX7
        go_wp2_with fail
        refine (hE va wa hba).1.mono ?_
        rintro e wb ⟨rfl, b8⟩
        have hXb := hXa.below b8
        have Bb := Ba.trans (b8.mono Ba.size)
        go_wp2_with fail
        refine (hE _ wb hXb).2.mono ?_
        rintro e wc ⟨rfl, b9⟩
        have Bc := Bb.trans (b9.mono Bb.size)
        have hs := str_bs (Bs.nil wc)
        have we : IntKind.i64.wrap E = E := by rw [IntKind.wrap_i64]; omega
        clear hE hba hXa hXb Ba Bb b8 b9
        go_wp2_with fail
        go_ret
        exact ⟨rfl, Bc⟩
      · clear hoa ba B7 hX7
        go_wp2_with fail
        refine (hO va wa hba).1.mono ?_
        rintro e wb ⟨⟨vy, rfl, hy⟩, b8⟩
        have hXb := hXa.below b8
        have Bb := Ba.trans (b8.mono Ba.size)
        go_wp2_with fail
        refine (hO _ wb hXb).2.mono ?_
        rintro e wc ⟨⟨vz, rfl, hz⟩, b9⟩
        have Bc := Bb.trans (b9.mono Bb.size)
        have hs1 := str_bs (hy.below b9)
        have hs2 := str_bs hz
        clear hO hba hXa hXb Ba Bb b8 b9 hy hz
        go_wp2_with fail
        go_ret
        exact ⟨rfl, Bc⟩
    · -- more
      obtain rfl : u = 3 := by omega
      clear ho5s h2
      have ho : Own w5 w3.heap.size .u8 5 (.slice (some ⟨b, 0, none⟩) n (n + y)) X0 := .inr ⟨b, y, by rw [Hn.out], ha5, hbB⟩
      obtain ⟨v7, w7, hrun, ho7, b7, _⟩ := app_bs_wide (B := w3.heap.size) sz35 ho h3 (by rw [Hn.out, Hm3.out]; omega)
      have hX7 := ho7.bs (so.app h3.octs) (by rw [List.length_append, Hn.out, Hm3.out]; omega)
      obtain ⟨p7, c7, rfl⟩ := hX7.shape
      obtain ⟨n7, hn7⟩ : ∃ n7, (X0 ++ l3).length = n7 := ⟨_, rfl⟩
      have hn8 : n7 ≤ 140737488360000 := by rw [← hn7, List.length_append, Hn.out, Hm3.out]; omega
      obtain ⟨X7, hX⟩ : ∃ X7, X0 ++ l3 = X7 := ⟨_, rfl⟩
      rw [hX] at hX7 hn7
      rw [hn7] at hX7
      rw [hX, hn7] at hrun
      have B7 := B5.trans (b7.mono lt4)
      have HL := Lib.hid hn7
      have Hrun := Lib.hid hrun
      clear ha5 B5 ho ho7 b7 hrun hX hn7 h3
      go_wp2_with (at_builtin; refine Lib.wpList_append_run _ rfl _ _ _ _ rfl _ _ rfl rfl _ _ Hrun.out ?_)
      go_wp2_with fail
      refine (few_wide (n7 : Int) (by omega) (by omega) _ X7 w7 hX7).mono ?_
      rintro e wa ⟨va, rfl, hoa, ba⟩
      rw [Int.toNat_natCast, List.take_of_length_le (Nat.le_of_eq HL.out)] at hoa
      have hba := hoa.bs hX7.octs (by rw [HL.out]; omega)
      have hXa := hX7.below ba
      have Ba := B7.trans (ba.mono B7.size)
      rcases next_both X7 with ⟨E, e0, e1, hE⟩ | ⟨kk, nn, bd, hO⟩
      · clear hoa ba B7 hX7
        go_wp2_with fail
        refine (hE va wa hba).1.mono ?_
        rintro e wb ⟨rfl, b8⟩
        have hXb := hXa.below b8
        have Bb := Ba.trans (b8.mono Ba.size)
        go_wp2_with fail
        refine (hE _ wb hXb).2.mono ?_
        rintro e wc ⟨rfl, b9⟩
        have Bc := Bb.trans (b9.mono Bb.size)
        have hs := str_bs (Bs.nil wc)
        have we : IntKind.i64.wrap E = E := by rw [IntKind.wrap_i64]; omega
        clear hE hba hXa hXb Ba Bb b8 b9
        go_wp2_with fail
        go_ret
        exact ⟨rfl, Bc⟩
      · clear hoa ba B7 hX7
        go_wp2_with fail
        refine (hO va wa hba).1.mono ?_
        rintro e wb ⟨⟨vy, rfl, hy⟩, b8⟩
        have hXb := hXa.below b8
        have Bb := Ba.trans (b8.mono Ba.size)
        go_wp2_with fail
        refine (hO _ wb hXb).2.mono ?_
        rintro e wc ⟨⟨vz, rfl, hz⟩, b9⟩
        have Bc := Bb.trans (b9.mono Bb.size)
        have hs1 := str_bs (hy.below b9)
        have hs2 := str_bs hz
        clear hO hba hXa hXb Ba Bb b8 b9 hy hz
        go_wp2_with fail
        go_ret
        exact ⟨rfl, Bc⟩
    · -- as it is
      obtain rfl : u = 4 := by omega
      clear h3 h2 ha5
      have hX7 := ho5s
      have B7 := B5
      have HL := Hn
      clear ho5s B5
      go_wp2_with fail
      refine (few_wide (n : Int) (by omega) (by omega) _ X0 w5 hX7).mono ?_
      rintro e wa ⟨va, rfl, hoa, ba⟩
      rw [Int.toNat_natCast, List.take_of_length_le (Nat.le_of_eq HL.out)] at hoa
      have hba := hoa.bs hX7.octs (by rw [HL.out]; omega)
      have hXa := hX7.below ba
      have Ba := B7.trans (ba.mono B7.size)
      rcases next_both X0 with ⟨E, e0, e1, hE⟩ | ⟨kk, nn, bd, hO⟩
      · clear hoa ba B7 hX7
        go_wp2_with fail
        refine (hE va wa hba).1.mono ?_
        rintro e wb ⟨rfl, b8⟩
        have hXb := hXa.below b8
        have Bb := Ba.trans (b8.mono Ba.size)
        go_wp2_with fail
        refine (hE _ wb hXb).2.mono ?_
        rintro e wc ⟨rfl, b9⟩
        have Bc := Bb.trans (b9.mono Bb.size)
        have hs := str_bs (Bs.nil wc)
        have we : IntKind.i64.wrap E = E := by rw [IntKind.wrap_i64]; omega
        clear hE hba hXa hXb Ba Bb b8 b9
        go_wp2_with fail
        go_ret
        exact ⟨rfl, Bc⟩
      · clear hoa ba B7 hX7
        go_wp2_with fail
        refine (hO va wa hba).1.mono ?_
        rintro e wb ⟨⟨vy, rfl, hy⟩, b8⟩
        have hXb := hXa.below b8
        have Bb := Ba.trans (b8.mono Ba.size)
        go_wp2_with fail
        refine (hO _ wb hXb).2.mono ?_
        rintro e wc ⟨⟨vz, rfl, hz⟩, b9⟩
        have Bc := Bb.trans (b9.mono Bb.size)
        have hs1 := str_bs (hy.below b9)
        have hs2 := str_bs hz
        clear hO hba hXa hXb Ba Bb b8 b9 hy hz
        go_wp2_with fail
        go_ret
        exact ⟨rfl, Bc⟩
/-- The same, as the row's text calls it. -/
theorem octetSeals_walk (kind : Int) (v1 v2 v3 : Value) (how at' by' : Int) (w : World) (bk : -9223372036854775808 ≤ kind ∧ kind ≤ 9223372036854775807) (h1 : ∃ l, Bs w v1 l) (h2 : ∃ l, Bs w v2 l) (h3 : ∃ l, Bs w v3 l ∧ l.length ≤ 140737488355328) (bh : -9223372036854775808 ≤ how ∧ how ≤ 9223372036854775807) (bp : -9223372036854775808 ≤ at' ∧ at' ≤ 9223372036854775807) (hb : 0 ≤ by' ∧ by' < 256) :
    Calls Try.prog 3 #[.int .i64 kind, v1, v2, v3, .int .i64 how, .int .i64 at', .int .u8 by'] w fun e w' => e = .returned (.bool true) ∧ Below w.heap.size w w' := by
  obtain ⟨l1, h1⟩ := h1
  obtain ⟨l2, h2⟩ := h2
  obtain ⟨l3, h3, hl3⟩ := h3
  exact octetSeals_walk0 kind how at' by' v1 v2 v3 l1 l2 l3 w h1 h2 h3 hl3 bk bh bp hb
end Go.Proofs.Ytkggglhnhlclmaa
