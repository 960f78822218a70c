/- Contract of cutCount where there is a count. -/
import Derived.Test.YtkggglhnhlclmaaDoorOctC
namespace Go.Proofs.YtkggglhnhlclmaaDoor
open Go.RowKit Go.Shelf
set_option linter.unusedVariables false
attribute [local go_sem] Oper.semAt_some

set_option maxHeartbeats 1000000 in
theorem backB_in (F : Fence) (n : Nat) (hf : F.fn 34) (hro : F.round = none) (a : Option Addr) (len cap : Nat) (w : World) :
    CallsIn F n Tryd.prog 34 #[.slice a len cap] w fun e w' => e = .returned (.func (.func 40) #[] #[.pointer (some ⟨w.heap.size, 0, none⟩)]) ∧ w' = w.alloc (.cells #[.slice a len cap] 22) := by
  refine callsIn_of_wp Tryd.func34 rfl hf ?_ hro
  simp only [Tryd.ntmps34, List.size_toArray, List.length_cons, List.length_nil, Nat.reduceAdd, Nat.reduceSub, Array.replicate_succ, Array.replicate_zero, List.push_toArray, List.append_toArray, List.nil_append, List.cons_append]
  gi_wp2
  go_ret
  exact ⟨rfl, rfl⟩
set_option maxRecDepth 100000 in
set_option maxHeartbeats 2000000 in
theorem backB_steps (F : Fence) (n : Nat) (hf : F.fn 40) (hro : F.round = none) (hn : 1 ≤ n) (l' Bs len cap : Nat) (p : Option Addr) (L : Nat → Int) (hm : len ≤ 140737488355328) (J : Nat → World → Prop)
    (hJ : ∀ k W, J k W → W.cell? ⟨Bs, 0, none⟩ = some (.slice p len cap) ∧ (k < len → ∃ b off, p = some ⟨b, off, none⟩ ∧ W.cell? ⟨b, off + (len - 1 - k), none⟩ = some (.int .u8 (L k))))
    (hY : ∀ k W, k < len → J k W → YieldAt F (n - 1) Tryd.prog l' #[.int .i64 ((len - 1 - k : Nat) : Int), .int .u8 (L k)] W fun e W' => e = .returned (.bool true) ∧ J (k + 1) W')
    (W : World) (h0 : J 0 W) :
    CallsIn F n Tryd.prog 40 #[.func (.yield l') #[] #[], .pointer (some ⟨Bs, 0, none⟩)] W fun e W' => (∃ v, e = .returned v) ∧ J len W' := by
  have hBs := (hJ 0 W h0).1
  refine callsIn_of_wp Tryd.func40 rfl hf ?_ hro
  simp only [Tryd.ntmps40, List.size_toArray, List.length_cons, List.length_nil, Nat.reduceAdd, Nat.reduceSub, Array.replicate_succ, Array.replicate_zero, List.push_toArray, List.append_toArray, List.nil_append, List.cons_append]
  gi_wp2
  gi_loopw [3] (fun i wr => ∃ k : Nat, k ≤ len ∧ i = .int .i64 ((len : Int) - 1 - k) ∧ J k wr) (fun i _ => (intOf i + 1).toNat)
  case atStart => exact ⟨0, Nat.zero_le _, by simp, h0⟩
  case round =>
    obtain ⟨k, hk, rfl, hJs⟩ := hrel
    by_cases hlt : k < len
    · obtain ⟨hbs, hcell⟩ := hJ k wr hJs
      obtain ⟨b, off, rfl, hcx⟩ := hcell hlt
      obtain ⟨fn, tmps, assign, body, hy, hR⟩ := hY k wr hlt hJs
      obtain ⟨j, hj⟩ : ∃ j : Nat, len - 1 - k = j := ⟨_, rfl⟩
      have hjl : j < len := by omega
      have hje : ((len : Int) - 1 - k) = (j : Int) := by omega
      rw [hj] at hcx hy
      generalize L k = z at hcx hy
      rw [hje]
      have Hj := Lib.hid hj
      have Hje := Lib.hid hje
      clear hj hje
      gi_wp2
      refine hR.mono ?_
      rintro e W3 ⟨rfl, hJ3⟩
      gi_wp2
      go_roundw
      case rel => exact ⟨k + 1, hlt, by have := Hje.out; congr 1; omega, hJ3⟩
      case measure => have := Hje.out; simp [intOf]
    · obtain rfl : k = len := by omega
      gi_wp2
      go_end0
      exact ⟨⟨_, rfl⟩, hJs⟩
theorem heap_kept {W W' : World} {row : Option Nat} {r : Nat} {a : Array Value} {t : TypeId} {z : Nat × Nat} (h : W.heap[r]? = some (.cells a t z)) (hg : W.grownBy W' row) (hr : ∀ r, row = some r → ∃ o : Obj, W.heap[r]? = some o ∧ o.isCells = false) : W'.heap[r]? = some (.cells a t z) := by
  refine (hg.block r (Array.getElem?_eq_some_iff.1 h).1 (fun e => ?_)).trans h
  obtain ⟨o, ho, hc⟩ := hr r e.symm
  rw [h] at ho
  cases ho
  simp [Obj.isCells] at hc
/-- What holds at round k: the count of the highest k groups stands in its box, bytes live on. -/
def CntI (w w2 : World) (sb : Nat) (p : Option Addr) (m c : Nat) (G : List Int) (k : Nat) (W : World) : Prop :=
  W.heap[w.heap.size]? = some (.cells #[.int .u64 (grp (G.drop (m - k)))] 30 (0, 0)) ∧ W.heap[sb]? = some (.cells #[.slice p m c] 22 (0, 0)) ∧ Below w.heap.size w W ∧ ∀ b o x, w2.cell? ⟨b, o, none⟩ = some (.int .u8 x) → W.cell? ⟨b, o, none⟩ = some (.int .u8 x)
theorem cntI_own (w w2 : World) (sb : Nat) (p : Option Addr) (m c B : Nat) (G : List Int) (hB : w.heap.size ≤ B) : OwnFrom B (fun k W => CntI w w2 sb p m c G k W) := by
  rintro k W W' row ⟨h1, h2, hg, hk⟩ hgr hr
  have hr' := fun r e => (hr r e).2
  exact ⟨heap_kept h1 hgr hr', heap_kept h2 hgr hr', hg.grown hgr hg.size (fun j e => Nat.le_trans hB (hr j e).1), fun b o x hx => cell_kept (hk b o x hx) hgr hr'⟩
theorem cell_u8_set {W : World} {nb b o : Nat} {n x : Int} {t : TypeId} {v : Value} (h1 : W.heap[nb]? = some (.cells #[.int .u64 n] t (0, 0))) (h : W.cell? ⟨b, o, none⟩ = some (.int .u8 x)) : (W.setCell ⟨nb, 0, none⟩ v).cell? ⟨b, o, none⟩ = some (.int .u8 x) := by
  by_cases e : b = nb
  · subst e
    rw [cell_of_row W b o _ t (0, 0) h1] at h
    rcases o with _ | o
    · simp at h
    · simp at h
  · have hh := heap_setCell_other W ⟨nb, 0, none⟩ b v e
    unfold World.cell? at h ⊢
    simp only at h hh ⊢
    rw [hh]
    exact h
theorem Bs.live {w w' : World} {v : Value} {l : List Int} (h : Bs w v l) (f : ∀ b o x, w.cell? ⟨b, o, none⟩ = some (.int .u8 x) → w'.cell? ⟨b, o, none⟩ = some (.int .u8 x)) : Bs w' v l := by
  obtain ⟨p, c, hv, h1, h2, h3, h4⟩ := h
  refine ⟨p, c, hv, h1, h2, h3, fun h0 => ?_⟩
  obtain ⟨g, off, hp, hc⟩ := h4 h0
  exact ⟨g, off, hp, fun j hj => f _ _ _ (hc j hj)⟩
theorem or_group {n c : Int} (hn : 0 ≤ n ∧ n < 2 ^ 57) (hc : 0 ≤ c ∧ c < 128) : bits .or .u64 (IntKind.u64.wrap (n * 128)) c = c + 128 * n := by
  obtain ⟨N, rfl⟩ := Int.eq_ofNat_of_zero_le hn.1
  obtain ⟨C, rfl⟩ := Int.eq_ofNat_of_zero_le hc.1
  have e1 : IntKind.u64.wrap ((N : Int) * 128) = ((N * 128 : Nat) : Int) := by rw [IntKind.wrap_u64]; omega
  rw [e1]
  show IntKind.u64.wrap ((BitVec.ofInt 64 ((N * 128 : Nat) : Int) ||| BitVec.ofInt 64 (C : Int)).toNat : Int) = _
  rw [BitVec.toNat_or, BitVec.ofInt_natCast, BitVec.ofInt_natCast, BitVec.toNat_ofNat, BitVec.toNat_ofNat, Nat.mod_eq_of_lt (by omega), Nat.mod_eq_of_lt (by omega), show N * 128 = 2 ^ 7 * N by omega, ← Nat.two_pow_add_eq_or_of_lt (by omega), IntKind.wrap_u64]
  omega
theorem andNot_more {x : Int} (h : 0 ≤ x ∧ x < 256) : bits .andNot .u8 x 128 = x % 128 := by
  obtain ⟨N, rfl⟩ := Int.eq_ofNat_of_zero_le h.1
  have e : ∀ x : Fin 256, bits .andNot .u8 (x.1 : Int) 128 = ((x.1 % 128 : Nat) : Int) := by decide +kernel
  have e1 := e ⟨N, by omega⟩
  have e2 : bits .andNot .u8 (N : Int) 128 = ((N % 128 : Nat) : Int) := e1
  rw [e2]
  omega
set_option maxRecDepth 100000 in
set_option maxHeartbeats 1600000 in
theorem cutCount_ok (v : Value) (l : List Int) (i : Nat) (hi : low l = i) (hil : i < l.length) (h9 : i < 9) (hz : i = 0 ∨ l.getD i 0 ≠ 0) (hn : grp (l.take (i + 1)) ≤ 4611686018427387904) (w : World) (h : Bs w v l) :
    Calls Tryd.prog 17 #[v] w fun e w' => (∃ v2, e = .returned (.tuple #[.int .u64 (grp (l.take (i + 1))), v2, .int .i64 0]) ∧ Bs w' v2 (l.drop (i + 1))) ∧ Below w.heap.size w w' := by
  have ix := fun W (g : Bs W v l) => index_bs v l W g
  rw [lowAt_hit hi hil] at ix
  have hb0 : Below w.heap.size w (w.alloc (.cells #[.int .u64 0] 30)) := by go_grown
  have nb0 : (w.alloc (.cells #[.int .u64 0] 30)).heap[w.heap.size]? = some (.cells #[.int .u64 0] 30 (0, 0)) := heap_new _ _ _ rfl
  have ct1 := fun W (g : Bs W v l) => cut_bs v l (i + 1) (by omega) W g
  rw [show (((i + 1 : Nat)) : Int) = (i : Int) + 1 by omega] at ct1
  have hg := h.below hb0
  obtain ⟨p, c, rfl, h1, h2, ho, h4⟩ := h
  obtain ⟨g0, off, rfl, hc⟩ := h4 (by omega)
  have hx := (hb0.cell (p := ⟨g0, off + i, none⟩) (World.block_lt_of_cell? w ⟨g0, off + i, none⟩ (hc i hil))).trans (hc i hil)
  have hGm : (l.take (i + 1)).length = i + 1 := by rw [List.length_take]; omega
  obtain ⟨len, hlen⟩ : ∃ len, l.length = len := ⟨_, rfl⟩
  rw [hlen] at ix ct1 hg hil h1 h2 ⊢
  obtain ⟨x, hxx⟩ : ∃ x, l.getD i 0 = x := ⟨_, rfl⟩
  rw [hxx] at hx hz
  have oG := ho.take (i + 1)
  obtain ⟨G, hG⟩ : ∃ G, l.take (i + 1) = G := ⟨_, rfl⟩
  obtain ⟨R, hR⟩ : ∃ R, l.drop (i + 1) = R := ⟨_, rfl⟩
  rw [hG] at ct1 hGm hn oG ⊢
  rw [hR] at ct1 ⊢
  have hil2 : (i : Int) < (len : Int) := by omega
  have Hn := Lib.hid hn
  clear hxx hc h4 hi hn hlen hG hR ho
  have i9 : ¬ (9 : Int) ≤ (i : Int) := by omega
  refine (callsIn_wide (n := 5)).1 ?_
  refine callsIn_of_wp_marks Tryd.func17 rfl trivial ?_ rfl
  simp only [Tryd.ntmps17, List.size_toArray, List.length_cons, List.length_nil, Nat.reduceAdd, Nat.reduceSub, Array.replicate_succ, Array.replicate_zero, List.push_toArray, List.append_toArray, List.nil_append, List.cons_append]
  rcases (show i = 0 ∨ (0 < i ∧ x ≠ 0) by omega) with h0 | ⟨h0, hx0⟩
  · have i0 : ¬ (0 : Int) < (i : Int) := by omega
    clear h0
    gi_wp2_with fail
    refine ⟨trivial, ?_⟩
    refine (callsIn_wide.2 (ix _ hg)).mono ?_
    rintro e w' ⟨rfl, rfl⟩
    gi_wp2_with fail
    refine ⟨trivial, ?_⟩
    refine (callsIn_wide.2 (ct1 _ hg)).mono ?_
    rintro e w2 ⟨⟨v1, v2, rfl, hv1, hv2⟩, hb2⟩
    replace hv1 := hv1.below hb2
    replace hv2 := hv2.below hb2
    obtain ⟨p1, c1, rfl, k1, k2, k3, k4⟩ := hv1
    obtain ⟨m, hm⟩ : ∃ m, G.length = m := ⟨_, rfl⟩
    rw [hm] at k1 k2 k4 hGm ⊢
    have m9 : m ≤ 9 := by omega
    have m0 : 0 < m := by omega
    clear hGm
    gi_wp2_with fail
    refine ⟨trivial, ?_⟩
    refine (backB_in Fence.wide 4 trivial rfl _ _ _ _).mono ?_
    rintro e w' ⟨rfl, rfl⟩
    gi_wp2_with fail
    have sz2 : w.heap.size + 1 ≤ w2.heap.size := by have := hb2.size; rw [World.size_alloc] at this; exact this
    have n2 := (hb2.block w.heap.size (by rw [World.size_alloc]; omega)).trans nb0
    have start : CntI w w2 w2.heap.size p1 m c1 G 0 (w2.alloc (.cells #[.slice p1 m c1] 22)) := by
      refine ⟨?_, heap_new _ _ _ rfl, (hb0.trans (hb2.mono hb0.size)).alloc (by omega) _, fun b o y hy => Lib.cell?_alloc_some _ hy⟩
      rw [Nat.sub_zero, List.drop_of_length_le (by omega)]
      exact (heap_old _ _ _ (by omega)).trans n2
    obtain ⟨sb, hsb⟩ : ∃ sb, w2.heap.size = sb := ⟨_, rfl⟩
    have s0 : (w2.alloc (.cells #[.slice p1 m c1] 22)).heap.size = sb + 1 := by rw [World.size_alloc, hsb]
    rw [hsb] at start ⊢
    generalize (w2.alloc (.cells #[.slice p1 m c1] 22)) = W0 at start s0 ⊢
    refine wpIn_steps rfl (by decide) (gf := 40) (lb := #[.pointer (some ⟨sb, 0, none⟩)]) rfl trivial (enters_of Tryd.func40 (by kernel_rfl) rfl)
      m (fun k => #[.int .i64 ((m - 1 - k : Nat) : Int), .int .u8 (G.getD (m - 1 - k) 0)]) (fun _ => rfl) (fun k W => CntI w w2 sb p1 m c1 G k W) (cntI_own w w2 sb p1 m c1 _ G (by omega)) start
      (fun l' J W hJ _ hY h0 => backB_steps Fence.wide 4 trivial rfl (by decide) l' sb m c1 p1 (fun k => G.getD (m - 1 - k) 0) (by omega) J (fun k W h => ?cells) hY W h0)
      (fun k => { tmps := #[.slice (some ⟨g0, off, none⟩) len c, undef, .pointer (some ⟨w.heap.size, 0, none⟩), v2, .int .i64 0, .int .i64 (i : Int), .slice p1 m c1, undef, .int .u8 (G.getD (m - 1 - k) 0), .slice (some ⟨g0, off, none⟩) len c, .int .i64 (i : Int), .bool (decide ((i : Int) < 0)), .int .i64 (i : Int), .bool (decide ((i : Int) < 0)), .bool false, .int .i64 (i : Int), .bool false, .bool false, undef, undef, undef, undef, undef, .bool false, .bool (decide (9 ≤ (i : Int))), .int .i64 (i : Int), .bool (decide (9 ≤ (i : Int))), .tuple #[.slice p1 m c1, v2], .slice (some ⟨g0, off, none⟩) len c, .int .i64 (i : Int), .int .i64 ((i : Int) + 1), .tuple #[.slice p1 m c1, v2], .slice p1 m c1, v2, .slice p1 m c1, .func (.func 40) #[] #[.pointer (some ⟨sb, 0, none⟩)], .int .i64 ((m - 1 - k : Nat) : Int), .int .u8 (G.getD (m - 1 - k) 0), undef, undef, undef, undef, undef, undef, undef, undef, undef, undef], defers := [] }) ?assign ?body ?done
    case cells =>
      obtain ⟨_, h2', _, hk'⟩ := hJ k W h
      refine ⟨by rw [cell_of_row W _ 0 _ _ (0, 0) h2']; rfl, fun hkm => ?_⟩
      obtain ⟨b, o, rfl, hcc⟩ := k4 (by omega)
      exact ⟨b, o, rfl, hk' _ _ _ (hcc _ (by omega))⟩
    case assign =>
      intro l' k W K hK
      generalize G.getD (m - 1 - k) 0 = z at hK ⊢
      generalize m - 1 - k = j at hK ⊢
      gi_wp2
      exact hK
    case body =>
      rintro l' k W hk ⟨h1', h2', hB', hk'⟩
      obtain ⟨j, hj⟩ : ∃ j, m - 1 - k = j := ⟨_, rfl⟩
      have hj2 : m - (k + 1) = j := by omega
      have hj3 : m - k = j + 1 := by omega
      have st : grp (G.drop (m - (k + 1))) = G.getD j 0 % 128 + 128 * grp (G.drop (m - k)) := by rw [hj2, hj3, drop_cons G j (by omega)]; rfl
      have oz := oG.getD j
      have bd := grp_bd (G.drop (m - k))
      have bl : (128 : Int) ^ (G.drop (m - k)).length ≤ 2 ^ 57 := by
        have e1 : (128 : Int) ^ (G.drop (m - k)).length = 2 ^ (7 * (G.drop (m - k)).length) := by rw [Int.pow_mul]; rfl
        rw [e1, List.length_drop]
        have h3 := Nat.pow_le_pow_right (n := 2) (by decide) (show 7 * (G.length - (m - k)) ≤ 57 by omega)
        exact_mod_cast h3
      rw [hj]
      obtain ⟨z, hz'⟩ : ∃ z, G.getD j 0 = z := ⟨_, rfl⟩
      obtain ⟨N, hN⟩ : ∃ N, grp (G.drop (m - k)) = N := ⟨_, rfl⟩
      rw [hN] at st bd h1'
      rw [hz'] at st oz ⊢
      have b0 : W.cell? ⟨w.heap.size, 0, none⟩ = some (.int .u64 N) := by rw [cell_of_row W _ 0 _ _ (0, 0) h1']; rfl
      have f0 : W.frozen? ⟨w.heap.size, 0, none⟩ = false := frozen_of_row W _ 0 _ _ h1'
      have han := andNot_more oz
      have hor := or_group (n := N) (c := z % 128) ⟨bd.1, by omega⟩ ⟨by omega, by omega⟩
      have w64 : IntKind.u64.wrap (z % 128) = z % 128 := by rw [IntKind.wrap_u64]; omega
      obtain ⟨y, hy⟩ : ∃ y, z % 128 = y := ⟨_, rfl⟩
      rw [hy] at han hor w64 st
      have wn : IntKind.u64.wrap (N * 128) = N * 128 := by rw [IntKind.wrap_u64]; omega
      have hor2 := hor
      rw [wn] at hor2
      have St := Lib.hid st
      have kk := KeepsOthers.setCell W ⟨w.heap.size, 0, none⟩ (.int .u64 (y + 128 * N))
      have s1 := heap_setCell_same W w.heap.size 0 _ _ (.int .u64 (y + 128 * N)) h1'
      have s2 := (heap_setCell_other W ⟨w.heap.size, 0, none⟩ sb (.int .u64 (y + 128 * N)) (by show sb ≠ w.heap.size; omega)).trans h2'
      have s3 := hB'.setCell (p := ⟨w.heap.size, 0, none⟩) (Nat.le_refl _) (.int .u64 (y + 128 * N))
      have s4 : ∀ b o q, w2.cell? ⟨b, o, none⟩ = some (.int .u8 q) → (W.setCell ⟨w.heap.size, 0, none⟩ (.int .u64 (y + 128 * N))).cell? ⟨b, o, none⟩ = some (.int .u8 q) := fun b o q hq => cell_u8_set h1' (hk' b o q hq)
      have Hs := Lib.hid (And.intro s1 (And.intro s2 (And.intro s3 s4)))
      clear st hz' hN hy s1 s2 s3 s4 bd bl hj hj2 hj3 h2' hB' hk'
      gi_wp2
      obtain ⟨s1, s2, s3, s4⟩ := Hs.out
      refine ⟨kk.from _, ?_, s2, s3, s4⟩
      rw [St.out, s1]
      rfl
    case done =>
      rintro D W hD ⟨h1', h2', hB', hk'⟩ hdef
      rw [Nat.sub_self, List.drop_zero] at h1'
      have n62 : ¬ (4611686018427387904 : Int) < grp G := by have := Hn.out; omega
      obtain ⟨N, hN⟩ : ∃ N, grp G = N := ⟨_, rfl⟩
      rw [hN] at h1' n62
      have HN := Lib.hid hN
      clear hN
      have b0 : W.cell? ⟨w.heap.size, 0, none⟩ = some (.int .u64 N) := by rw [cell_of_row W _ 0 _ _ (0, 0) h1']; rfl
      have f0 : W.frozen? ⟨w.heap.size, 0, none⟩ = false := frozen_of_row W _ 0 _ _ h1'
      gi_wp2
      have hK' := (KeepsOthers.setCell W ⟨w.heap.size, 0, none⟩ (.int .u64 N)).same D _ hdef rfl
      refine ⟨by simp, .inl ⟨_, _, rfl, run_takeDeferred hK', ?_⟩⟩
      have hc5 := cell_kept (World.cell?_setCell_same' W ⟨w.heap.size, 0, none⟩ (.int .u64 N) (by rw [b0]; rfl)) (grownBy_putObj' _ D (.deferred none)) (fun r e => by cases e; exact ⟨_, hK', rfl⟩)
      refine ⟨.tuple #[.int .u64 N, v2, .int .i64 0], ?_, ⟨v2, by rw [HN.out], hv2.live (fun b o q hq => cell_kept (cell_u8_set h1' (hk' b o q hq)) (grownBy_putObj' _ D (.deferred none)) (fun r e => by cases e; exact ⟨_, hK', rfl⟩))⟩, (hB'.setCell (p := ⟨w.heap.size, 0, none⟩) (Nat.le_refl _) _).trans (belowK_b (w := w) (Nat.le_refl _) _ D _ _ (by omega) hK' rfl rfl)⟩
      simp [results, Tryd.results17, go_sem, hc5]
  · have i0 : (0 : Int) < (i : Int) := by omega
    have xb : (x == 0) = false := by simpa using hx0
    gi_wp2_with fail
    refine ⟨trivial, ?_⟩
    refine (callsIn_wide.2 (ix _ hg)).mono ?_
    rintro e w' ⟨rfl, rfl⟩
    gi_wp2_with fail
    refine ⟨trivial, ?_⟩
    refine (callsIn_wide.2 (ct1 _ hg)).mono ?_
    rintro e w2 ⟨⟨v1, v2, rfl, hv1, hv2⟩, hb2⟩
    replace hv1 := hv1.below hb2
    replace hv2 := hv2.below hb2
    obtain ⟨p1, c1, rfl, k1, k2, k3, k4⟩ := hv1
    obtain ⟨m, hm⟩ : ∃ m, G.length = m := ⟨_, rfl⟩
    rw [hm] at k1 k2 k4 hGm ⊢
    have m9 : m ≤ 9 := by omega
    have m0 : 0 < m := by omega
    clear hGm
    gi_wp2_with fail
    refine ⟨trivial, ?_⟩
    refine (backB_in Fence.wide 4 trivial rfl _ _ _ _).mono ?_
    rintro e w' ⟨rfl, rfl⟩
    gi_wp2_with fail
    have sz2 : w.heap.size + 1 ≤ w2.heap.size := by have := hb2.size; rw [World.size_alloc] at this; exact this
    have n2 := (hb2.block w.heap.size (by rw [World.size_alloc]; omega)).trans nb0
    have start : CntI w w2 w2.heap.size p1 m c1 G 0 (w2.alloc (.cells #[.slice p1 m c1] 22)) := by
      refine ⟨?_, heap_new _ _ _ rfl, (hb0.trans (hb2.mono hb0.size)).alloc (by omega) _, fun b o y hy => Lib.cell?_alloc_some _ hy⟩
      rw [Nat.sub_zero, List.drop_of_length_le (by omega)]
      exact (heap_old _ _ _ (by omega)).trans n2
    obtain ⟨sb, hsb⟩ : ∃ sb, w2.heap.size = sb := ⟨_, rfl⟩
    have s0 : (w2.alloc (.cells #[.slice p1 m c1] 22)).heap.size = sb + 1 := by rw [World.size_alloc, hsb]
    rw [hsb] at start ⊢
    generalize (w2.alloc (.cells #[.slice p1 m c1] 22)) = W0 at start s0 ⊢
    refine wpIn_steps rfl (by decide) (gf := 40) (lb := #[.pointer (some ⟨sb, 0, none⟩)]) rfl trivial (enters_of Tryd.func40 (by kernel_rfl) rfl)
      m (fun k => #[.int .i64 ((m - 1 - k : Nat) : Int), .int .u8 (G.getD (m - 1 - k) 0)]) (fun _ => rfl) (fun k W => CntI w w2 sb p1 m c1 G k W) (cntI_own w w2 sb p1 m c1 _ G (by omega)) start
      (fun l' J W hJ _ hY h0 => backB_steps Fence.wide 4 trivial rfl (by decide) l' sb m c1 p1 (fun k => G.getD (m - 1 - k) 0) (by omega) J (fun k W h => ?cells) hY W h0)
      (fun k => { tmps := #[.slice (some ⟨g0, off, none⟩) len c, undef, .pointer (some ⟨w.heap.size, 0, none⟩), v2, .int .i64 0, .int .i64 (i : Int), .slice p1 m c1, undef, .int .u8 (G.getD (m - 1 - k) 0), .slice (some ⟨g0, off, none⟩) len c, .int .i64 (i : Int), .bool (decide ((i : Int) < 0)), .int .i64 (i : Int), .bool (decide ((i : Int) < 0)), .bool false, .int .i64 (i : Int), .bool true, .bool true, .slice (some ⟨g0, off, none⟩) len c, .int .i64 (i : Int), .pointer (some ⟨g0, off + i, none⟩), .int .u8 x, .bool false, .bool false, .bool (decide (9 ≤ (i : Int))), .int .i64 (i : Int), .bool (decide (9 ≤ (i : Int))), .tuple #[.slice p1 m c1, v2], .slice (some ⟨g0, off, none⟩) len c, .int .i64 (i : Int), .int .i64 ((i : Int) + 1), .tuple #[.slice p1 m c1, v2], .slice p1 m c1, v2, .slice p1 m c1, .func (.func 40) #[] #[.pointer (some ⟨sb, 0, none⟩)], .int .i64 ((m - 1 - k : Nat) : Int), .int .u8 (G.getD (m - 1 - k) 0), undef, undef, undef, undef, undef, undef, undef, undef, undef, undef], defers := [] }) ?assign ?body ?done
    case cells =>
      obtain ⟨_, h2', _, hk'⟩ := hJ k W h
      refine ⟨by rw [cell_of_row W _ 0 _ _ (0, 0) h2']; rfl, fun hkm => ?_⟩
      obtain ⟨b, o, rfl, hcc⟩ := k4 (by omega)
      exact ⟨b, o, rfl, hk' _ _ _ (hcc _ (by omega))⟩
    case assign =>
      intro l' k W K hK
      generalize G.getD (m - 1 - k) 0 = z at hK ⊢
      generalize m - 1 - k = j at hK ⊢
      gi_wp2
      exact hK
    case body =>
      rintro l' k W hk ⟨h1', h2', hB', hk'⟩
      obtain ⟨j, hj⟩ : ∃ j, m - 1 - k = j := ⟨_, rfl⟩
      have hj2 : m - (k + 1) = j := by omega
      have hj3 : m - k = j + 1 := by omega
      have st : grp (G.drop (m - (k + 1))) = G.getD j 0 % 128 + 128 * grp (G.drop (m - k)) := by rw [hj2, hj3, drop_cons G j (by omega)]; rfl
      have oz := oG.getD j
      have bd := grp_bd (G.drop (m - k))
      have bl : (128 : Int) ^ (G.drop (m - k)).length ≤ 2 ^ 57 := by
        have e1 : (128 : Int) ^ (G.drop (m - k)).length = 2 ^ (7 * (G.drop (m - k)).length) := by rw [Int.pow_mul]; rfl
        rw [e1, List.length_drop]
        have h3 := Nat.pow_le_pow_right (n := 2) (by decide) (show 7 * (G.length - (m - k)) ≤ 57 by omega)
        exact_mod_cast h3
      rw [hj]
      obtain ⟨z, hz'⟩ : ∃ z, G.getD j 0 = z := ⟨_, rfl⟩
      obtain ⟨N, hN⟩ : ∃ N, grp (G.drop (m - k)) = N := ⟨_, rfl⟩
      rw [hN] at st bd h1'
      rw [hz'] at st oz ⊢
      have b0 : W.cell? ⟨w.heap.size, 0, none⟩ = some (.int .u64 N) := by rw [cell_of_row W _ 0 _ _ (0, 0) h1']; rfl
      have f0 : W.frozen? ⟨w.heap.size, 0, none⟩ = false := frozen_of_row W _ 0 _ _ h1'
      have han := andNot_more oz
      have hor := or_group (n := N) (c := z % 128) ⟨bd.1, by omega⟩ ⟨by omega, by omega⟩
      have w64 : IntKind.u64.wrap (z % 128) = z % 128 := by rw [IntKind.wrap_u64]; omega
      obtain ⟨y, hy⟩ : ∃ y, z % 128 = y := ⟨_, rfl⟩
      rw [hy] at han hor w64 st
      have wn : IntKind.u64.wrap (N * 128) = N * 128 := by rw [IntKind.wrap_u64]; omega
      have hor2 := hor
      rw [wn] at hor2
      have St := Lib.hid st
      have kk := KeepsOthers.setCell W ⟨w.heap.size, 0, none⟩ (.int .u64 (y + 128 * N))
      have s1 := heap_setCell_same W w.heap.size 0 _ _ (.int .u64 (y + 128 * N)) h1'
      have s2 := (heap_setCell_other W ⟨w.heap.size, 0, none⟩ sb (.int .u64 (y + 128 * N)) (by show sb ≠ w.heap.size; omega)).trans h2'
      have s3 := hB'.setCell (p := ⟨w.heap.size, 0, none⟩) (Nat.le_refl _) (.int .u64 (y + 128 * N))
      have s4 : ∀ b o q, w2.cell? ⟨b, o, none⟩ = some (.int .u8 q) → (W.setCell ⟨w.heap.size, 0, none⟩ (.int .u64 (y + 128 * N))).cell? ⟨b, o, none⟩ = some (.int .u8 q) := fun b o q hq => cell_u8_set h1' (hk' b o q hq)
      have Hs := Lib.hid (And.intro s1 (And.intro s2 (And.intro s3 s4)))
      clear st hz' hN hy s1 s2 s3 s4 bd bl hj hj2 hj3 h2' hB' hk'
      gi_wp2
      obtain ⟨s1, s2, s3, s4⟩ := Hs.out
      refine ⟨kk.from _, ?_, s2, s3, s4⟩
      rw [St.out, s1]
      rfl
    case done =>
      rintro D W hD ⟨h1', h2', hB', hk'⟩ hdef
      rw [Nat.sub_self, List.drop_zero] at h1'
      have n62 : ¬ (4611686018427387904 : Int) < grp G := by have := Hn.out; omega
      obtain ⟨N, hN⟩ : ∃ N, grp G = N := ⟨_, rfl⟩
      rw [hN] at h1' n62
      have HN := Lib.hid hN
      clear hN
      have b0 : W.cell? ⟨w.heap.size, 0, none⟩ = some (.int .u64 N) := by rw [cell_of_row W _ 0 _ _ (0, 0) h1']; rfl
      have f0 : W.frozen? ⟨w.heap.size, 0, none⟩ = false := frozen_of_row W _ 0 _ _ h1'
      gi_wp2
      have hK' := (KeepsOthers.setCell W ⟨w.heap.size, 0, none⟩ (.int .u64 N)).same D _ hdef rfl
      refine ⟨by simp, .inl ⟨_, _, rfl, run_takeDeferred hK', ?_⟩⟩
      have hc5 := cell_kept (World.cell?_setCell_same' W ⟨w.heap.size, 0, none⟩ (.int .u64 N) (by rw [b0]; rfl)) (grownBy_putObj' _ D (.deferred none)) (fun r e => by cases e; exact ⟨_, hK', rfl⟩)
      refine ⟨.tuple #[.int .u64 N, v2, .int .i64 0], ?_, ⟨v2, by rw [HN.out], hv2.live (fun b o q hq => cell_kept (cell_u8_set h1' (hk' b o q hq)) (grownBy_putObj' _ D (.deferred none)) (fun r e => by cases e; exact ⟨_, hK', rfl⟩))⟩, (hB'.setCell (p := ⟨w.heap.size, 0, none⟩) (Nat.le_refl _) _).trans (belowK_b (w := w) (Nat.le_refl _) _ D _ _ (by omega) hK' rfl rfl)⟩
      simp [results, Tryd.results17, go_sem, hc5]
end Go.Proofs.YtkggglhnhlclmaaDoor
