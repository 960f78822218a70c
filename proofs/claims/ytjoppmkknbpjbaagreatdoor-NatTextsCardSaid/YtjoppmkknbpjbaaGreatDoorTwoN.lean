/- Contract of abaculuslaw1.two: bytes as numbers, the program's and the document's. -/
import Derived.Test.YtjoppmkknbpjbaaGreatDoorNatFrom
import Derived.Test.YtjoppmkknbpjbaaGreatDoorFrom
namespace Go.Proofs.YtjoppmkknbpjbaaGreatDoor
open Go.RowKit
set_option linter.unusedVariables false

/-- A slice of bytes that came in. -/
def BArg (w : World) (v : Value) : Prop := v = .slice none 0 0 ∨ (∃ a cap, v = .slice (some a) 0 cap ∧ cap ≤ 9223372036854775807) ∨
  ∃ b off len cap zs, v = .slice (some ⟨b, off, none⟩) len cap ∧ 0 < len ∧ len ≤ cap ∧ len ≤ zs.length ∧ len ≤ 9223372036854775807 ∧ cap ≤ 9223372036854775807 ∧ Bytes8 zs ∧ ∀ j, j < zs.length → w.cell? ⟨b, off + j, none⟩ = some (.int .u8 (zs.getD j 0))
theorem BArg.below {w w' : World} {v : Value} (h : BArg w v) (hb : Below w.heap.size w w') : BArg w' v := by
  rcases h with h | h | ⟨b, off, len, cap, zs, hv, h1, h2, h3, h4, h5, h6, hc⟩
  · exact .inl h
  · exact .inr (.inl h)
  · refine .inr (.inr ⟨b, off, len, cap, zs, hv, h1, h2, h3, h4, h5, h6, fun j hj => ?_⟩)
    rw [hb.cell (p := ⟨b, off + j, none⟩) (World.block_lt_of_cell? w ⟨b, off + j, none⟩ (hc j hj))]
    exact hc j hj
theorem few_arg (v : Value) (w : World) (h : BArg w v) : Calls Tryz.prog 18 #[v, .int .i64 48] w (RetFew w) := by
  rcases h with rfl | ⟨a, cap, rfl, hc⟩ | ⟨b, off, len, cap, zs, rfl, h1, h2, h3, h4, h5, h6, hc⟩
  · exact few_nil w
  · exact few_zero a cap hc w
  · exact few_any b off len cap zs h1 h2 h3 h4 h5 h6 w hc
/-- The document's number n. -/
def IsRef (w : World) (s : Value) (n : Int) : Prop := ∃ b t len cap l, s = .slice (some ⟨b, 0, none⟩) len cap ∧ Arr w b t .u32 l ∧ len ≤ l.length ∧ len ≤ 12 ∧ l.length ≤ 12 ∧ Limbs l ∧ (len ≠ 0 → l.getD (len - 1) 0 ≠ 0) ∧ lval (l.take len) = n
theorem IsRef.below {w w' : World} {s : Value} {n : Int} (h : IsRef w s n) (hb : Below w.heap.size w w') : IsRef w' s n := by
  obtain ⟨b, t, len, cap, l, hv, ha, r⟩ := h
  exact ⟨b, t, len, cap, l, hv, ha.below hb ha.lt, r⟩
theorem IsRef.bd {w : World} {s : Value} {n : Int} (h : IsRef w s n) : 0 ≤ n ∧ n < 2 ^ 384 := by
  obtain ⟨b, t, len, cap, l, hv, ha, h1, h2, h3, hw, hz, rfl⟩ := h
  have hb := lval_bd (hw.take len)
  rw [List.length_take, Nat.min_eq_left h1] at hb
  have hm := lpw_mono h2
  rw [lpw_two 12] at hm
  exact ⟨hb.1, by omega⟩
theorem hand_ref (s : Value) (n : Int) (w : World) (h : IsRef w s n) : Calls Tryz.prog 19 #[s] w (RetNat n w) := by
  have hb := h.bd
  obtain ⟨b, t, len, cap, l, rfl, ha, h1, h2, h3, hw, hz, hv⟩ := h
  exact hand_nat n hb.1 hb.2 _ len cap w fun w' g => natBytes_of n b len cap t l w' (ha.below g ha.lt) h1 (by omega) hw hz hv
theorem natFrom_ref (g n cap : Nat) (l : List Int) (w : World) (ha : Arr w g 5 .u8 l) (hl : n ≤ l.length) (hm : n ≤ 48) (hby : Bytes8 l) :
    Calls Tryz.prog 17 #[.slice (some ⟨g, 0, none⟩) n cap] w fun e w' => (∃ s N, e = .returned s ∧ IsRef w' s N) ∧ Below w.heap.size w w' := by
  refine (natFrom_any g 5 n cap l w ha hl hm hby).mono ?_
  rintro e w' ⟨⟨b, len, m, rfl, hb, hlen, hw, hle, hz⟩, hB⟩
  exact ⟨⟨_, _, rfl, b, 53, len, _, m, rfl, hb, by omega, by omega, by omega, hw, hz, rfl⟩, hB⟩
/-- Two numbers, each the program's and the document's. -/
def RetFour (w : World) (e : Ending) (w' : World) : Prop := ∃ v1 v2 s1 s2 n m, e = .returned (.tuple #[v1, v2, s1, s2]) ∧ IsNat w' v1 n ∧ IsNat w' v2 m ∧ IsRef w' s1 n ∧ IsRef w' s2 m ∧ Below w.heap.size w w'
theorem IsRef.two {w : World} {s : Value} {n : Int} {c : Nat} {x y : Value} (h : IsRef w s n) (hc : Var w c x y) (x' y' : Value) : IsRef ((w.setCell ⟨c, 0, none⟩ x').setCell ⟨c, 1, none⟩ y') s n := by
  obtain ⟨b, t, len, cap, l, hv, ha, r⟩ := h
  exact ⟨b, t, len, cap, l, hv, (ha.other (ha.neVar hc) _).other (ha.neVar hc) _, r⟩
theorem bodyPost_four {fn : Func} {p q s t : Tmp} (h : fn.results = #[.cell p 26, .cell q 26, .tmp s, .tmp t]) {w w' : World} {a : Act} {x y u v s1 s2 : Value} {Q R : Int} {c d : Nat} (hd : a.defers = [])
    (hp : a.tmps.getD p undef = .pointer (some ⟨c, 0, none⟩)) (hq : a.tmps.getD q undef = .pointer (some ⟨d, 0, none⟩)) (hs : a.tmps.getD s undef = s1) (ht : a.tmps.getD t undef = s2) (hc : Var w' c x y) (hd' : Var w' d u v)
    (h1 : IsNat w' (.agg #[x, y]) Q) (h2 : IsNat w' (.agg #[u, v]) R) (h3 : IsRef w' s1 Q) (h4 : IsRef w' s2 R) (hB : Below w.heap.size w w') : bodyPost Tryz.prog fn (RetFour w) .ret a w' := by
  refine bodyPost_ret (v := .tuple #[.agg #[x, y], .agg #[u, v], s1, s2]) ?_ hd ⟨_, _, _, _, _, _, rfl, h1, h2, h3, h4, hB⟩
  have hp' : a.tmps[p]?.getD undef = .pointer (some ⟨c, 0, none⟩) := by simpa using hp
  have hq' : a.tmps[q]?.getD undef = .pointer (some ⟨d, 0, none⟩) := by simpa using hq
  have hs' : a.tmps[s]?.getD undef = s1 := by simpa using hs
  have ht' : a.tmps[t]?.getD undef = s2 := by simpa using ht
  simp [results, h, hp', hq', hs', ht', asAddr, run_loadVar_nat hc, run_loadVar_nat hd']
set_option maxRecDepth 100000 in
set_option maxHeartbeats 1000000 in
theorem two_any (a b : Value) (w : World) (ha : BArg w a) (hb : BArg w b) : Calls Tryz.prog 4 #[a, b] w (RetFour w) := by
  have hW : Below w.heap.size w ((w.alloc (.cells #[.int .u64 0, .slice none 0 0] 26)).alloc (.cells #[.int .u64 0, .slice none 0 0] 26)) := by go_grown
  have v0 : Var ((w.alloc (.cells #[.int .u64 0, .slice none 0 0] 26)).alloc (.cells #[.int .u64 0, .slice none 0 0] 26)) w.heap.size (.int .u64 0) (.slice none 0 0) := (Var.new w w.heap.size _ _ _ _ rfl).alloc _
  have v1 : Var ((w.alloc (.cells #[.int .u64 0, .slice none 0 0] 26)).alloc (.cells #[.int .u64 0, .slice none 0 0] 26)) (w.heap.size + 1) (.int .u64 0) (.slice none 0 0) := Var.new (w.alloc _) _ _ _ _ _ (by simp)
  have hz : ((w.alloc (.cells #[.int .u64 0, .slice none 0 0] 26)).alloc (.cells #[.int .u64 0, .slice none 0 0] 26)).heap.size = w.heap.size + 1 + 1 := by simp
  go_enter Tryz.func4, Tryz.ntmps4
  go_wp2_with fail
  generalize (w.alloc (.cells #[.int .u64 0, .slice none 0 0] 26)).alloc (.cells #[.int .u64 0, .slice none 0 0] 26) = W at hW v0 v1 hz ⊢
  refine (few_arg a W (ha.below hW)).mono ?_
  rintro e w1 ⟨g1, n1, c1, l1, rfl, hg1, hn1, hm1, hy1, hb1⟩
  go_wp2_with fail
  refine (natFrom_ref g1 n1 c1 l1 w1 hg1 hn1 hm1 hy1).mono ?_
  rintro e w2 ⟨⟨s1, N, rfl, hs1⟩, hb2⟩
  have acc := below_acc hb1 hb1.size hb2
  go_wp2_with fail
  refine (few_arg b w2 (hb.below (hW.trans (acc.mono hW.size)))).mono ?_
  rintro e w3 ⟨g2, n2, c2, l2, rfl, hg2, hn2, hm2, hy2, hb3⟩
  replace hs1 := hs1.below hb3
  replace acc := below_acc acc acc.size hb3
  go_wp2_with fail
  refine (natFrom_ref g2 n2 c2 l2 w3 hg2 hn2 hm2 hy2).mono ?_
  rintro e w4 ⟨⟨s2, M, rfl, hs2⟩, hb4⟩
  replace hs1 := hs1.below hb4
  replace acc := below_acc acc acc.size hb4
  clear hb1 hb2 hb3 hb4 hg1 hg2 hy1 hy2 ha hb hn1 hn2 hm1 hm2
  go_wp2_with fail
  refine (hand_ref s1 N w4 hs1).mono ?_
  rintro e w5 ⟨x1, rfl, hx1, hb5⟩
  obtain ⟨xa, xp, xl, xc, rfl⟩ := hx1.shape
  replace hs1 := hs1.below hb5
  replace hs2 := hs2.below hb5
  replace acc := below_acc acc acc.size hb5
  clear hb5
  go_wp2_with fail
  refine (hand_ref s2 M w5 hs2).mono ?_
  rintro e w6 ⟨x2, rfl, hx2, hb6⟩
  obtain ⟨ya, yp, yl, yc, rfl⟩ := hx2.shape
  replace hx1 := hx1.below hb6
  replace hs1 := hs1.below hb6
  replace hs2 := hs2.below hb6
  replace acc := below_acc acc acc.size hb6
  clear hb6
  replace v0 := v0.below acc (by omega)
  replace v1 := v1.below acc (by omega)
  have c00 := v0.c0
  have c01 := v0.c1
  have c10 := v1.c0
  have c11 := v1.c1
  have f00 := v0.free 0
  have f01 := v0.free 1
  have f10 := v1.free 0
  have f11 := v1.free 1
  have hne : w.heap.size ≠ w.heap.size + 1 := by omega
  have hBw : Below w.heap.size w w6 := hW.trans (acc.mono (by omega))
  go_wp2_with fail
  have u0 := v0.set (.int .u64 xa) xp xl xc
  have u1 := (v1.other hne.symm (.int .u64 xa) (i := 0)).other hne.symm (.slice xp xl xc) (i := 1)
  exact bodyPost_four Tryz.results4 rfl rfl rfl rfl rfl ((u0.other hne _).other hne _) (u1.set _ _ _ _)
    ((hx1.two v0 _ _).two u1 _ _) ((hx2.two v0 _ _).two u1 _ _) ((hs1.two v0 _ _).two u1 _ _) ((hs2.two v0 _ _).two u1 _ _) (below_two (below_two hBw (Nat.le_refl _) _ _) (by omega) _ _)
end Go.Proofs.YtjoppmkknbpjbaaGreatDoor
