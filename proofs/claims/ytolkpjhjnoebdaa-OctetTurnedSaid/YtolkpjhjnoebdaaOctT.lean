/- OctetTurned, walked. -/
import Derived.Test.YtolkpjhjnoebdaaOctI
namespace Go.Proofs.Ytolkpjhjnoebdaa
open Go.RowKit
set_option linter.unusedVariables false

set_option maxRecDepth 100000 in
set_option maxHeartbeats 2000000 in
theorem octetTurned_walk0 (kind pos by' : Int) (v : Value) (l : List Int) (w : World) (h : Bs w v l) (bk : -9223372036854775808 ≤ kind ∧ kind ≤ 9223372036854775807) (bp : -9223372036854775808 ≤ pos ∧ pos ≤ 9223372036854775807) (hb : 0 ≤ by' ∧ by' < 256) :
    Calls Try.prog 4 #[.int .i64 kind, v, .int .i64 pos, .int .u8 by'] w fun e w' => e = .returned (.bool true) ∧ Below w.heap.size w w' := by
  obtain ⟨p, c, rfl⟩ := h.shape
  obtain ⟨len, hlen⟩ : ∃ len, l.length = len := ⟨_, rfl⟩
  rw [hlen] at h ⊢
  obtain ⟨_, hc1, hc2⟩ := h.len
  go_enter Try.func4, Try.ntmps4
  go_wp2_with fail
  refine (pick_o kind 255 bk.1 bk.2 (by decide) (by decide) w).mono ?_
  rintro e w' ⟨⟨q, hq, rfl⟩, rfl⟩
  obtain ⟨k, hk⟩ : ∃ k : Int, 1 + (q : Int) = k := ⟨_, rfl⟩
  have hk1 : 1 ≤ k ∧ k ≤ 255 := by omega
  go_wp2_with fail
  refine (few_own 2000 (by decide) (by decide) _ l w h).mono ?_
  rintro e w1 ⟨v1, rfl, ho1, b1⟩
  have oT := h.octs.take 2000
  have tl : (l.take 2000).length = min len 2000 := by rw [List.length_take, hlen]; omega
  have ho1' : Own w1 w.heap.size .u8 5 v1 (l.take 2000) := ho1
  obtain ⟨T, hT⟩ : ∃ T, l.take 2000 = T := ⟨_, rfl⟩
  rw [hT] at oT tl ho1'
  have bT := ho1'.bs oT (by omega)
  clear ho1 hT hk hlen
  have tb : T.length ≤ 4194304 := by omega
  have cp := cnt_pos T.length
  have cl := cnt_len T.length 1 (by omega)
  have sl := sealed_len k T
  have sg := seal_any k hk1 v1 T tb w1 bT
  unfold RetSeal at sg
  obtain ⟨n, hn⟩ : ∃ n, (sealed k T).length = n := ⟨_, rfl⟩
  obtain ⟨C, hC⟩ : ∃ C, (cnt T.length).length = C := ⟨_, rfl⟩
  obtain ⟨t, ht⟩ : ∃ t, T.length = t := ⟨_, rfl⟩
  rw [hn] at sg
  rw [hn, hC, ht] at sl
  rw [hC] at cp cl
  rw [ht] at tl tb
  obtain ⟨m, hm⟩ : ∃ m, C + 1 = m := ⟨_, rfl⟩
  obtain ⟨r, hr⟩ : ∃ r, t + 8 = r := ⟨_, rfl⟩
  have mn : min (len : Int) 2000 = (t : Int) := by omega
  have e1 : (n : Int) - 8 - (t : Int) = (m : Int) := by omega
  have e2 : (n : Int) - (m : Int) = (r : Int) := by omega
  have n10 : ¬ (n : Int) < 10 := by omega
  have bn : n ≤ 5000 := by omega
  have br : 0 < r ∧ r ≤ 5000 := by omega
  have pk := fun w => pick_o pos (r : Int) bp.1 bp.2 (by omega) (by omega) w
  have Hn := Lib.hid hn
  have Hsl := Lib.hid sl
  have HC := Lib.hid hC
  have Ht := Lib.hid ht
  have Hm := Lib.hid hm
  have Hr := Lib.hid hr
  have Hcl := Lib.hid cl
  clear hn sl tl hC ht hm hr cl
  go_wp2_with fail
  refine sg.mono ?_
  rintro e w2 ⟨g, z, rfl, hA, hg, b2⟩
  go_wp2_with fail
  refine (known4_true w2).mono ?_
  rintro e w3 ⟨rfl, b3⟩
  replace hA := hA.below b3 hA.lt
  have hBw := (b1.trans (b2.mono b1.size)).trans (b3.mono (Nat.le_trans b1.size b2.size))
  have hgw : w.heap.size ≤ g := Nat.le_trans b1.size hg
  clear b1 b2 b3 bT ho1'
  by_cases h0 : by' = 0
  · subst h0
    go_wp2_with fail
    go_ret
    exact ⟨rfl, hBw⟩
  have hb0 : (by' == 0) = false := by simpa using h0
  go_wp2_with fail
  refine (pk w3).mono ?_
  rintro e w' ⟨⟨j, hj, rfl⟩, rfl⟩
  have hin : m + j < n := by
    have := e1
    have := e2
    omega
  obtain ⟨i, hi⟩ : ∃ i, m + j = i := ⟨_, rfl⟩
  have ei : (m : Int) + (j : Int) = (i : Int) := by omega
  rw [hi] at hin
  have hcell := hA.cell i (by rw [List.length_append, Hn.out]; omega)
  have hfree := hA.free i
  have ex : (sealed k T ++ List.replicate z 0).getD i 0 = (sealed k T).getD i 0 := by
    rw [List.getD_eq_getElem?_getD, List.getD_eq_getElem?_getD, List.getElem?_append_left (by rw [Hn.out]; omega)]
  rw [ex] at hcell
  have so : Octs (sealed k T) := (recd_octs hk1 oT).app (be8_octs (fnv_word f0_word _))
  have hx := so.getD i
  obtain ⟨x, hxe⟩ : ∃ x, (sealed k T).getD i 0 = x := ⟨_, rfl⟩
  rw [hxe] at hcell hx
  obtain ⟨y1, y2, y3⟩ := xor_turned hx hb h0
  obtain ⟨y, hy⟩ : ∃ y, bits .xor .u8 x by' = y := ⟨_, rfl⟩
  rw [hy] at y1 y2 y3
  have hin' : (i : Int) < (n : Int) := by omega
  have hi0 : 1 + (cnt T.length).length ≤ i := by rw [HC.out]; have := Hm.out; omega
  obtain ⟨L, C', hL, hC', p1, p2, p3, p4, p5, p6, p7, p8⟩ := turned_parts (y := y) hk1 oT hi0 (by rw [Hn.out]; exact hin) ⟨y2, y3⟩ (by rw [hxe]; exact y1)
  obtain rfl : C = C' := HC.out.symm.trans hC'
  rw [Ht.out] at p2 p6 p7
  have hLn : L.length = n := by rw [p2, Hsl.out]
  obtain ⟨n', hn'⟩ : ∃ n', n = n' + 1 := ⟨C + t + 8, Hsl.out⟩
  have hbs : Bs (w3.setCell ⟨g, i, none⟩ (.int .u8 y)) (.slice (some ⟨g, 0, none⟩) n n) L := by
    have hs := hA.set i y
    rw [List.set_append_left _ _ (by rw [Hn.out]; exact hin), hL] at hs
    have hb := Bs.arr (n := n) (c := n) hs (by rw [List.length_append, hLn]; omega) (Nat.le_refl _) (by omega) (by rw [List.take_left' hLn]; exact p8)
    rwa [List.take_left' hLn] at hb
  have Hbig := Lib.hid hn'
  have nx : Calls Try.prog 12 #[.slice (some ⟨g, 0, none⟩) n n] (w3.setCell ⟨g, i, none⟩ (.int .u8 y)) fun e w' => e = .returned (.tuple #[.int .i64 0, .slice none 0 0, .int .i64 0, .int .i64 13]) ∧ Below w.heap.size w w' := by
    have hcl := Hcl.out
    have hsl := Hsl.out
    rw [hn'] at hbs ⊢
    have q := next_sum g 0 n' n' L _ hbs p3 (C - 1) t p4 (by omega) (by omega) p5 p6 tb (by omega) p7
    have hb2 : Below w.heap.size w (w3.setCell ⟨g, i, none⟩ (.int .u8 y)) := hBw.setCell (p := ⟨g, i, none⟩) hgw _
    exact q.mono fun e w' h => ⟨h.1, hb2.trans (h.2.mono hb2.size)⟩
  clear hi0 hL hC' p1 p2 p3 p4 p5 p6 p7 p8 hLn hn' hbs
  go_wp2_with fail
  refine nx.mono ?_
  rintro e w4 ⟨rfl, b4⟩
  go_wp2_with fail
  go_ret
  exact ⟨rfl, b4⟩
/-- The same, as the row's text calls it. -/
theorem octetTurned_walk (kind : Int) (v : Value) (pos by' : Int) (w : World) (bk : -9223372036854775808 ≤ kind ∧ kind ≤ 9223372036854775807) (h : ∃ l, Bs w v l) (bp : -9223372036854775808 ≤ pos ∧ pos ≤ 9223372036854775807) (hb : 0 ≤ by' ∧ by' < 256) :
    Calls Try.prog 4 #[.int .i64 kind, v, .int .i64 pos, .int .u8 by'] w fun e w' => e = .returned (.bool true) ∧ Below w.heap.size w w' := by
  obtain ⟨l, h⟩ := h
  exact octetTurned_walk0 kind pos by' v l w h bk bp hb
end Go.Proofs.Ytolkpjhjnoebdaa
