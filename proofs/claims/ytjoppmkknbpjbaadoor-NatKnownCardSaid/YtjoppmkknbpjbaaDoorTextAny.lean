/- Contract of (Nat).Text: the digits of a number, no nought ahead. -/
import Derived.Test.YtjoppmkknbpjbaaDoorDigAny
import Derived.Test.YtjoppmkknbpjbaaDoorTextWord
import Derived.Deep.LoopGhost
namespace Go.Proofs.YtjoppmkknbpjbaaDoor
open Go.RowKit
set_option linter.unusedVariables false

theorem ten_bits (j : Nat) : (2 : Int) ^ (63 * 2 ^ j) ≤ 10 ^ (19 * 2 ^ j) := by
  rw [Int.pow_mul, Int.pow_mul]
  have h : ∀ (a b : Int) (m : Nat), 0 ≤ a → a ≤ b → a ^ m ≤ b ^ m := by
    intro a b m h0 h1
    induction m with
    | zero => simp
    | succ m ih =>
      rw [Int.pow_succ, Int.pow_succ]
      exact Int.mul_le_mul ih h1 h0 (Int.le_trans (Int.pow_nonneg h0) ih)
  exact h _ _ _ (by decide) (by decide)
theorem ten_39 {j : Nat} (h : j ≤ 5) : (10 : Int) ^ (19 * 2 ^ j) < pw 39 := by
  have h1 : 2 ^ j ≤ 2 ^ 5 := Nat.pow_le_pow_right (by decide) h
  have h2 := ten_mono (a := 19 * 2 ^ j) (b := 19 * 2 ^ 5) (by omega)
  exact Int.lt_of_le_of_lt h2 (by decide +kernel)
/-- A round more: then there are few powers. -/
theorem text_go {n : Int} {L pb j : Nat} (hn : n < pw 39) (n0 : 0 ≤ n) (hL : IsBits n L) (hp : IsBits (10 ^ (19 * 2 ^ j)) pb) (h : 2 * ((pb : Int) - 1) < L) : j ≤ 4 := by
  have h1 := bits_le hL hn
  have h2 := ten_bits j
  have h3 := hp.1
  have h4 : 63 * 2 ^ j < pb := by
    apply Nat.lt_of_not_le
    intro hc
    have := two_pow_mono hc
    omega
  apply Nat.le_of_not_lt
  intro hc
  have : 2 ^ 5 ≤ 2 ^ j := Nat.pow_le_pow_right (by decide) hc
  omega
/-- No round more: then the last power's square is above the number. -/
theorem text_end {n P : Int} {L pb : Nat} (hL : IsBits n L) (hp : IsBits P pb) (P0 : 0 < P) (h : ¬ 2 * ((pb : Int) - 1) < L) : n < P * P := by
  have p0 : pb ≠ 0 := by
    rintro rfl
    have := hp.1
    simp at this
    omega
  have h1 := hL.1
  have h2 := hp.2 p0
  have h3 := two_pow_mono (a := L) (b := (pb - 1) + (pb - 1)) (by omega)
  rw [Int.pow_add] at h3
  have h4 : (2 : Int) ^ (pb - 1) * 2 ^ (pb - 1) ≤ P * P := Int.mul_le_mul h2 h2 (Int.pow_nonneg (by decide)) (Int.le_of_lt P0)
  omega
/-- The first k numbers of these cells: 10^19, its square, the square's square. -/
def PowsC (w : World) (cs : List Value) (k : Nat) : Prop := ∀ i, i < k → ∃ x p l c, cs[i * 2]? = some (.int .u64 x) ∧ cs[i * 2 + 1]? = some (.slice p l c) ∧ IsNat w (.agg #[.int .u64 x, .slice p l c]) (10 ^ (19 * 2 ^ i))
theorem PowsC.pows {w : World} {B b k c : Nat} {e : TypeId} {cs : List Value} (h : PowsC w cs k) (ho : OwnC w B e 2 (.slice (some ⟨b, 0, none⟩) k c) k cs) : Pows w b k := by
  intro i hi
  obtain ⟨x, p, l, c, h1, h2, h3⟩ := h i hi
  exact ⟨x, p, l, c, ho.cell _ _ h1, ho.cell _ _ h2, h3⟩
theorem PowsC.map {w w' : World} {k : Nat} {cs : List Value} (h : PowsC w cs k) (f : ∀ v n, IsNat w v n → IsNat w' v n) : PowsC w' cs k := by
  intro i hi
  obtain ⟨x, p, l, c, h1, h2, h3⟩ := h i hi
  exact ⟨x, p, l, c, h1, h2, f _ _ h3⟩
theorem PowsC.snoc {w : World} {k : Nat} {cs : List Value} {x : Int} {p : Option Addr} {l c : Nat} (h : PowsC w cs k) (hl : cs.length = k * 2) (hx : IsNat w (.agg #[.int .u64 x, .slice p l c]) (10 ^ (19 * 2 ^ k))) : PowsC w (cs ++ [.int .u64 x, .slice p l c]) (k + 1) := by
  intro i hi
  by_cases e : i = k
  · subst e
    refine ⟨x, p, l, c, ?_, ?_, hx⟩
    · rw [List.getElem?_append_right (by omega), hl, show i * 2 - i * 2 = 0 by omega]; rfl
    · rw [List.getElem?_append_right (by omega), hl, show i * 2 + 1 - i * 2 = 1 by omega]; rfl
  · obtain ⟨y, q, m, d, h1, h2, h3⟩ := h i (by omega)
    exact ⟨y, q, m, d, by rw [List.getElem?_append_left (by omega)]; exact h1, by rw [List.getElem?_append_left (by omega)]; exact h2, h3⟩
theorem OwnC.below {w w' : World} {B : Nat} {e : TypeId} {s n : Nat} {v : Value} {cs : List Value} (h : OwnC w B e s v n cs) (hb : Below w.heap.size w w') : OwnC w' B e s v n cs := by
  obtain ⟨b, z, rest, hv, ha, r⟩ := h
  exact ⟨b, z, rest, hv, (hb.block b (Array.getElem?_eq_some_iff.1 ha).1).trans ha, r⟩
theorem OwnC.other {w : World} {B : Nat} {e : TypeId} {s n c i : Nat} {v x : Value} {cs : List Value} (h : OwnC w B e s v n cs) (hc : c < B) : OwnC (w.setCell ⟨c, i, none⟩ x) B e s v n cs := by
  obtain ⟨b, z, rest, hv, ha, h1, h2, h3⟩ := h
  exact ⟨b, z, rest, hv, (heap_setCell_other w ⟨c, i, none⟩ b x (by show b ≠ c; omega)).trans ha, h1, h2, h3⟩
/-- A number's words lie in no block in which a slice stands. -/
theorem IsNat.grown {w w' : World} {v : Value} {n : Int} {row : Option Nat} (h : IsNat w v n) (hg : w.grownBy w' row) (hr : ∀ r, row = some r → ∃ p m q, w.cell? ⟨r, 1, none⟩ = some (.slice p m q)) : IsNat w' v n := by
  rcases h with h | ⟨b, t, len, cap, l, hv, ha, r⟩
  · exact .inl h
  · refine .inr ⟨b, t, len, cap, l, hv, ha.grown hg (fun e => ?_), r⟩
    obtain ⟨p, m, q, hc⟩ := hr b e.symm
    exact ha.ne_slice hc rfl
/-- What stands at the head of a round of Text: j + 1 powers. -/
structure TxtAt (w : World) (y : Value) (wp j : Nat) (pv : Value) (wr : World) : Prop where
  var : Var wr w.heap.size (.int .u64 0) y
  below : Below w.heap.size w wr
  at_ : w.heap.size < wp
  pow : ∃ px pp pl pc, Var wr wp (.int .u64 px) (.slice pp pl pc) ∧ IsNat wr (.agg #[.int .u64 px, .slice pp pl pc]) (10 ^ (19 * 2 ^ j))
  row : ∃ b c cs, pv = .slice (some ⟨b, 0, none⟩) (j + 1) c ∧ OwnC wr (wp + 1) 25 2 pv (j + 1) cs ∧ PowsC wr cs (j + 1)
theorem OwnC.len {w : World} {B : Nat} {e : TypeId} {s n : Nat} {v : Value} {cs : List Value} (h : OwnC w B e s v n cs) : cs.length = n * s ∧ ∃ b c, v = .slice (some ⟨b, 0, none⟩) n c ∧ B ≤ b ∧ n ≤ c := by
  obtain ⟨b, z, rest, hv, _, h1, _, h3⟩ := h
  exact ⟨h1, b, _, hv, h3, by omega⟩
set_option maxRecDepth 100000 in
set_option maxHeartbeats 4000000 in
theorem text_many (ab al ac : Nat) (n : Int) (w : World) (htab : Tab w) (h : IsNat w (.agg #[.int .u64 0, .slice (some ⟨ab, 0, none⟩) al ac]) n) (hn : n < pw 39) (n1 : 0 < n) :
    Calls Tryd.prog 13 #[.agg #[.int .u64 0, .slice (some ⟨ab, 0, none⟩) al ac]] w (RetText n w) := by
  have e1 := eqnil
  have Hn := Lib.hid hn
  clear hn
  go_enter Tryd.func13, Tryd.ntmps13
  go_wp2_with fail
  refine (of_any 10000000000000000000 _).mono ?_
  rintro e w1 ⟨rfl, hb1⟩
  have zb1 := hb1.size
  rw [World.size_alloc] at zb1
  have v0 : Var (w.alloc (.cells #[.int .u64 0, .slice (some ⟨ab, 0, none⟩) al ac] 25)) w.heap.size (.int .u64 0) (.slice (some ⟨ab, 0, none⟩) al ac) := Var.new w _ _ _ _ _ rfl
  have b0 : Below w.heap.size w w1 := Below.trans (by go_grown) (hb1.mono (by simp))
  have start : TxtAt w (.slice (some ⟨ab, 0, none⟩) al ac) w1.heap.size 0 (.slice (some ⟨w1.heap.size + 1, 0, none⟩) 1 1) ((w1.alloc (.cells #[.int .u64 10000000000000000000, .slice none 0 0] 25)).alloc (.cells #[.int .u64 10000000000000000000, .slice none 0 0] 25)) := by
    refine ⟨((v0.below hb1 v0.lt).alloc _).alloc _, (b0.alloc b0.size _).alloc (by rw [World.size_alloc]; have := b0.size; omega) _, by omega, ⟨_, _, _, _, (Var.new w1 _ _ _ _ _ rfl).alloc _, IsNat.word ⟨by decide, by decide⟩⟩, ⟨_, 1, [.int .u64 10000000000000000000, .slice none 0 0], rfl, ⟨_, 0, [], rfl, heap_new _ _ _ (by rw [World.size_alloc]), rfl, rfl, Nat.le_refl _⟩, fun i hi => ?_⟩⟩
    obtain rfl : i = 0 := by omega
    exact ⟨_, _, _, _, rfl, rfl, IsNat.word ⟨by decide, by decide⟩⟩
  clear hb1 v0 b0
  go_wp2_with fail
  generalize ((w1.alloc (.cells #[.int .u64 10000000000000000000, .slice none 0 0] 25)).alloc (.cells #[.int .u64 10000000000000000000, .slice none 0 0] 25)) = w2 at start ⊢
  generalize w1.heap.size = wp at start ⊢
  go_loopg [4] 10 (fun g pv wr => ∃ j : Nat, g = 10 - j ∧ j ≤ 5 ∧ TxtAt w (.slice (some ⟨ab, 0, none⟩) al ac) wp j pv wr)
  case atStart => exact ⟨0, rfl, by omega, start⟩
  case round =>
    obtain ⟨j, hg, hj, va, hB, hat, ⟨px, pp, pl, pc, vp, hp⟩, ⟨b, c, cs, rfl, hrow, hpc⟩⟩ := hrel
    have Hg := Lib.hid hg
    have hr := h.below hB
    have lw := va.lt
    have lp := vp.lt
    have P0 : (0 : Int) < 10 ^ (19 * 2 ^ j) := Int.pow_pos (by decide)
    have P39 := ten_39 hj
    obtain ⟨P, hP⟩ : ∃ P, (10 : Int) ^ (19 * 2 ^ j) = P := ⟨_, rfl⟩
    rw [hP] at hp P0 P39
    have hls := hrow.len
    have HP := Lib.hid hP
    have H39 := Lib.hid P39
    clear hg start hP P39
    go_wp2_with fail
    refine wpIn_wide (n := 5) |>.1 ?_
    refine region_ways (by kernel_rfl) fun R hR => ?_
    have H1111111 : ∀ (W : World) (acc : Below wr.heap.size wr W) (kA : Nat) (hA : IsBits n kA) (kP : Nat) (hPb : IsBits P kP), R 0 #[true, true, true, true, true, true, true] { tmps := #[.agg #[.int .u64 0, .slice (some ⟨ab, 0, none⟩) al ac], .pointer (some ⟨w.heap.size, 0, none⟩), .string { data := #[] }, .pointer (some ⟨wp, 0, none⟩), .slice (some ⟨b, 0, none⟩) (j + 1) c, .pointer (some ⟨w.heap.size, 1, none⟩), .slice (some ⟨ab, 0, none⟩) al ac, .bool false, undef, undef, undef, .agg #[.int .u64 10000000000000000000, .slice none 0 0], .agg #[.int .u64 10000000000000000000, .slice none 0 0], .slice (some ⟨wp + 1, 0, none⟩) 1 1, .agg #[.int .u64 0, .slice (some ⟨ab, 0, none⟩) al ac], .int .i64 (kA : Int), .agg #[.int .u64 px, .slice pp pl pc], .int .i64 (kP : Int), .int .i64 ((kP : Int) - 1), .int .i64 (2 * ((kP : Int) - 1)), .bool (decide (2 * ((kP : Int) - 1) < (kA : Int))), u21, u22, u23, u24, u25, u26, u27, undef, undef, undef, undef, undef], defers := [] } W := by
      intro W acc kA hA kP hPb
      rw [← hR]
      refine wpAnyIn_done (by kernel_rfl) ?_ _
      have hV := va.below acc lw
      have hVp := vp.below acc lp
      replace hr := hr.below acc
      replace hp := hp.below acc
      replace hrow := hrow.below acc
      replace hpc := hpc.map (fun v n g => g.below acc)
      have hBW := hB.trans (acc.mono hB.size)
      clear acc va vp hB
      by_cases hgo : 2 * ((kP : Int) - 1) < (kA : Int)
      · have j4 := text_go Hn.out (by omega) hA (by rw [HP.out]; exact hPb) hgo
        have c0 := hVp.c0
        have c1 := hVp.c1
        have f0 := hVp.free 0
        have f1 := hVp.free 1
        have mu := mul_any 39 (by decide) (by decide) _ _ P P W hp hp H39.out H39.out
        go_wp2_with fail
        refine mu.mono ?_
        rintro e w3 ⟨v3, rfl, hv3, hb3⟩
        obtain ⟨qx, qp, ql, qc, rfl⟩ := hv3.shape
        have u0 := hV.below hb3 hV.lt
        have up := hVp.below hb3 hVp.lt
        have B3 := hBW.trans (hb3.mono hBW.size)
        replace hrow := hrow.below hb3
        replace hpc := hpc.map (fun v n g => g.below hb3)
        have hne : w.heap.size ≠ wp := by omega
        clear mu c0 c1 f0 f1 hV hVp hBW hr hp hb3
        have c0 := up.c0
        have c1 := up.c1
        have f0 := up.free 0
        have f1 := up.free 1
        have t0 := ((u0.other (d := wp) (i := 0) hne (.int .u64 qx)).other (d := wp) (i := 1) hne (.slice qp ql qc)).alloc (.cells #[.int .u64 qx, .slice qp ql qc] 25)
        have tp := (up.set (.int .u64 qx) qp ql qc).alloc (.cells #[.int .u64 qx, .slice qp ql qc] 25)
        have B4 := below_two B3 (c := wp) (by omega) (.int .u64 qx) (.slice qp ql qc)
        have s4 : ((w3.setCell ⟨wp, 0, none⟩ (.int .u64 qx)).setCell ⟨wp, 1, none⟩ (.slice qp ql qc)).heap.size = w3.heap.size := by simp
        have ba : Below ((w3.setCell ⟨wp, 0, none⟩ (.int .u64 qx)).setCell ⟨wp, 1, none⟩ (.slice qp ql qc)).heap.size ((w3.setCell ⟨wp, 0, none⟩ (.int .u64 qx)).setCell ⟨wp, 1, none⟩ (.slice qp ql qc)) (((w3.setCell ⟨wp, 0, none⟩ (.int .u64 qx)).setCell ⟨wp, 1, none⟩ (.slice qp ql qc)).alloc (.cells #[.int .u64 qx, .slice qp ql qc] 25)) := by go_grown
        have hv4 := (hv3.two up (.int .u64 qx) (.slice qp ql qc)).below ba
        have hpc4 := hpc.map (fun v n g => (g.two up (.int .u64 qx) (.slice qp ql qc)).below ba)
        have hrow4 := ((hrow.other (c := wp) (i := 0) (x := .int .u64 qx) (by omega)).other (c := wp) (i := 1) (x := .slice qp ql qc) (by omega)).below ba
        have B5 := B4.trans (ba.mono (by rw [s4]; exact B3.size))
        have uw : wp < w3.heap.size := up.lt
        have hx0 : (((w3.setCell ⟨wp, 0, none⟩ (.int .u64 qx)).setCell ⟨wp, 1, none⟩ (.slice qp ql qc)).alloc (.cells #[.int .u64 qx, .slice qp ql qc] 25)).cell? ⟨w3.heap.size, 0, none⟩ = some (.int .u64 qx) := by
          rw [cell_of_row _ w3.heap.size 0 _ _ (0, 0) (heap_new _ _ _ s4.symm)]; rfl
        have hx1 : (((w3.setCell ⟨wp, 0, none⟩ (.int .u64 qx)).setCell ⟨wp, 1, none⟩ (.slice qp ql qc)).alloc (.cells #[.int .u64 qx, .slice qp ql qc] 25)).cell? ⟨w3.heap.size, 1, none⟩ = some (.slice qp ql qc) := by
          rw [cell_of_row _ w3.heap.size 1 _ _ (0, 0) (heap_new _ _ _ s4.symm)]; rfl
        obtain ⟨v5, w5, hrun, hrow5, hb5, row, hg5, hr5⟩ := app_nat (by rw [World.size_alloc, s4]; omega) hrow4 hx0 hx1 rfl rfl (by omega)
        have Hrun := Lib.hid hrun
        have hslice : ∀ r, row = some r → r = b := fun r hr => by
          obtain ⟨_, _, e⟩ := hr5 r hr
          simp only [Value.slice.injEq, Option.some.injEq, Addr.mk.injEq] at e
          exact e.1.1.symm
        have hbwp : wp < b := by
          obtain ⟨_, b', _, e, h1, _⟩ := hrow4.len
          simp only [Value.slice.injEq, Option.some.injEq, Addr.mk.injEq] at e
          obtain ⟨⟨rfl, _⟩, _⟩ := e
          omega
        have hrc : ∀ r, row = some r → ∃ p m q, (((w3.setCell ⟨wp, 0, none⟩ (.int .u64 qx)).setCell ⟨wp, 1, none⟩ (.slice qp ql qc)).alloc (.cells #[.int .u64 qx, .slice qp ql qc] 25)).cell? ⟨r, 1, none⟩ = some (.slice p m q) := fun r hr => by
          obtain ⟨_, p', l', c', _, h2, _⟩ := hpc4 0 (by omega)
          rw [hslice r hr]
          exact ⟨p', l', c', hrow4.cell _ _ h2⟩
        have e2 : P * P = 10 ^ (19 * 2 ^ (j + 1)) := by rw [ten_split, HP.out]
        have next : TxtAt w (.slice (some ⟨ab, 0, none⟩) al ac) wp (j + 1) v5 w5 := by
          have n0 : some w.heap.size ≠ row := fun e => by have := hslice _ e.symm; omega
          have n1 : some wp ≠ row := fun e => by have := hslice _ e.symm; omega
          have hv5 := hv4.grown hg5 hrc
          rw [e2] at hv5
          have hl5 := hrow5.len
          obtain ⟨k1, b', c', rfl, _, _⟩ := hrow5.len
          exact ⟨t0.grown hg5 n0, B5.trans (hb5.mono (by omega)), by omega, ⟨_, _, _, _, tp.grown hg5 n1, hv5⟩, ⟨b', c', _, rfl, hrow5, (hpc4.map (fun v n g => g.grown hg5 hrc)).snoc hls.1 hv5⟩⟩
        clear hrun hv4 hpc4 hrow4 t0 tp hx0 hx1 hrow5 hb5 hg5 hr5 hrc hpc hrow hv3 B4 B5 ba
        go_wp2_with (at_builtin; refine Lib.wpList_append_run _ rfl _ _ _ _ rfl _ _ rfl rfl _ _ Hrun.out ?_)
        go_roundg (10 - (j + 1))
        case measure => have := Hg.out; omega
        case rel => exact ⟨j + 1, rfl, by omega, next⟩
      · have hend := text_end hA hPb P0 hgo
        have L5 : wr.heap.size ≤ wr.heap.size := Nat.le_refl _
        have c0 := hV.c0
        have c1 := hV.c1
        obtain ⟨k1, b', c', e', hbwp, hjc⟩ := hrow.len
        simp only [Value.slice.injEq, Option.some.injEq, Addr.mk.injEq] at e'
        obtain ⟨⟨rfl, _, _⟩, _, rfl⟩ := e'
        have e2 : P * P = 10 ^ (19 * 2 ^ (j + 1)) := by rw [ten_split, HP.out]
        rw [e2] at hend
        have h2 : 2 ^ (j + 1) ≤ 2 ^ 6 := Nat.pow_le_pow_right (by decide) (by omega)
        have dg := digits_any 39 (by decide) (j + 1) c b _ n (.slice none 0 0) [] W.heap.size W (by omega) hjc (htab.below hBW) (hpc.pows hrow) hr hend Hn.out (Nat.le_refl _) (own_nil _ _ _ _) (by simp; omega)
        clear hrow hpc hA hPb hls hjc L5
        go_wp2_with fail
        refine dg.mono ?_
        rintro e w3 ⟨vo, t, rfl, ho, ht1, ht2, ht3, hbl, hkp⟩
        rw [List.nil_append] at ho
        rcases ho with ⟨rfl, hnil⟩ | ⟨d, z, rfl, hd, _⟩
        · have e3 := codes_length t
          have h3 : 1 ≤ 2 ^ (j + 1) := Nat.one_le_two_pow
          rw [hnil, ht1, List.length_nil] at e3
          omega
        · have hl : (codes t).length = t.data.toList.length := by unfold codes; rw [List.length_map]
          have htt : (⟨t.data.toList.toArray⟩ : ByteArray) = t := by cases t; simp
          have hcell : ∀ i (hi : i < t.data.toList.length), w3.cell? ((⟨d, 0, none⟩ : Addr).add i) = some (.int .u8 (t.data.toList[i].toNat : Int)) := fun i hi => by
            have hadd : (⟨d, 0, none⟩ : Addr).add i = ⟨d, i, none⟩ := by unfold Addr.add; split <;> simp_all
            rw [hadd, hd.cell i (by rw [List.length_append, hl]; omega), List.getD_eq_getElem?_getD, List.getElem?_append_left (by omega)]
            have hi2 : i < t.data.size := by rw [← Array.length_toList]; exact hi
            simp only [codes, List.getElem?_map, Array.getElem?_toList, Array.getElem?_eq_getElem hi2, Option.map_some, Option.getD_some, Array.getElem_toList]
          have hcv := fun cc => run_convert_bytes_back (P := Tryd.prog) w3 40 9 5 ⟨d, 0, none⟩ cc t.data.toList (by kernel_rfl) (by kernel_rfl) (by kernel_rfl) hcell
          rw [htt, ← hl] at hcv
          clear hcell
          have fin := trim_text t.data.toList n (by rw [htt]; exact ht2) (by rw [htt, ← hl, codes_length, ht1]; exact ht3) n1
          have hBn := hBW.trans (hbl.mono hBW.size)
          have Hfin := Lib.hid fin
          generalize (codes t).length = tl at hcv
          clear hd ht1 ht2 ht3 hl htt fin hbl hkp dg c0 c1
          go_wp2_with (go_at_call 32; refine (Tryd.strings_TrimLeft_one t 48 (by decide) w3).mono ?_; rintro e w4 ⟨rfl, rfl⟩)
          go_ret
          exact ⟨_, rfl, Hfin.out, hBn⟩
      
    have H1111110 : ∀ (W : World) (acc : Below wr.heap.size wr W) (kA : Nat) (hA : IsBits n kA) (kP : Nat) (hPb : IsBits P kP), R 1 #[true, true, true, true, true, true, false] { tmps := #[.agg #[.int .u64 0, .slice (some ⟨ab, 0, none⟩) al ac], .pointer (some ⟨w.heap.size, 0, none⟩), .string { data := #[] }, .pointer (some ⟨wp, 0, none⟩), .slice (some ⟨b, 0, none⟩) (j + 1) c, .pointer (some ⟨w.heap.size, 1, none⟩), .slice (some ⟨ab, 0, none⟩) al ac, .bool false, undef, undef, undef, .agg #[.int .u64 10000000000000000000, .slice none 0 0], .agg #[.int .u64 10000000000000000000, .slice none 0 0], .slice (some ⟨wp + 1, 0, none⟩) 1 1, .agg #[.int .u64 0, .slice (some ⟨ab, 0, none⟩) al ac], .int .i64 (kA : Int), .agg #[.int .u64 px, .slice pp pl pc], .int .i64 (kP : Int), .int .i64 ((kP : Int) - 1), .int .i64 (2 * ((kP : Int) - 1)), u20, u21, u22, u23, u24, u25, u26, u27, undef, undef, undef, undef, undef], defers := [] } W := by
      intro W acc kA hA kP hPb
      rw [← hR]
      have c00 := (va.below acc lw).c0
      have c01 := (va.below acc lw).c1
      have d00 := (vp.below acc lp).c0
      have d01 := (vp.below acc lp).c1
      have hk1 := bits_le hPb H39.out
      have hk0 : (1 : Int) ≤ (kP : Int) := by have := bits_pos hPb (by omega) (by omega); simp at this; omega
      have w1 : IntKind.i64.wrap ((kP : Int) - 1) = (kP : Int) - 1 := by rw [IntKind.wrap_i64]; omega
      have w2 : IntKind.i64.wrap (2 * ((kP : Int) - 1)) = 2 * ((kP : Int) - 1) := by rw [IntKind.wrap_i64]; omega
      refine wpAnyIn_ready (rs := [6]) (by kernel_rfl) (by simp) ?_
      refine AllReadyIn.cons rfl (fun K hK => ?_) ?_
      · go_simp
        refine hK _ _ ?_
        have h := H1111111 W acc kA hA kP hPb
        rw [← hR] at h
        exact h
      exact AllReadyIn.nil
    have H1111100 : ∀ (W : World) (acc : Below wr.heap.size wr W) (kA : Nat) (hA : IsBits n kA) (kP : Nat) (hPb : IsBits P kP), R 2 #[true, true, true, true, true, false, false] { tmps := #[.agg #[.int .u64 0, .slice (some ⟨ab, 0, none⟩) al ac], .pointer (some ⟨w.heap.size, 0, none⟩), .string { data := #[] }, .pointer (some ⟨wp, 0, none⟩), .slice (some ⟨b, 0, none⟩) (j + 1) c, .pointer (some ⟨w.heap.size, 1, none⟩), .slice (some ⟨ab, 0, none⟩) al ac, .bool false, undef, undef, undef, .agg #[.int .u64 10000000000000000000, .slice none 0 0], .agg #[.int .u64 10000000000000000000, .slice none 0 0], .slice (some ⟨wp + 1, 0, none⟩) 1 1, .agg #[.int .u64 0, .slice (some ⟨ab, 0, none⟩) al ac], .int .i64 (kA : Int), .agg #[.int .u64 px, .slice pp pl pc], .int .i64 (kP : Int), .int .i64 ((kP : Int) - 1), u19, u20, u21, u22, u23, u24, u25, u26, u27, undef, undef, undef, undef, undef], defers := [] } W := by
      intro W acc kA hA kP hPb
      rw [← hR]
      have c00 := (va.below acc lw).c0
      have c01 := (va.below acc lw).c1
      have d00 := (vp.below acc lp).c0
      have d01 := (vp.below acc lp).c1
      have hk1 := bits_le hPb H39.out
      have hk0 : (1 : Int) ≤ (kP : Int) := by have := bits_pos hPb (by omega) (by omega); simp at this; omega
      have w1 : IntKind.i64.wrap ((kP : Int) - 1) = (kP : Int) - 1 := by rw [IntKind.wrap_i64]; omega
      have w2 : IntKind.i64.wrap (2 * ((kP : Int) - 1)) = 2 * ((kP : Int) - 1) := by rw [IntKind.wrap_i64]; omega
      refine wpAnyIn_ready (rs := [5]) (by kernel_rfl) (by simp) ?_
      refine AllReadyIn.cons rfl (fun K hK => ?_) ?_
      · go_simp
        refine hK _ _ ?_
        have h := H1111110 W acc kA hA kP hPb
        rw [← hR] at h
        exact h
      exact AllReadyIn.nil
    have H1111000 : ∀ (W : World) (acc : Below wr.heap.size wr W) (kA : Nat) (hA : IsBits n kA) (kP : Nat) (hPb : IsBits P kP), R 3 #[true, true, true, true, false, false, false] { tmps := #[.agg #[.int .u64 0, .slice (some ⟨ab, 0, none⟩) al ac], .pointer (some ⟨w.heap.size, 0, none⟩), .string { data := #[] }, .pointer (some ⟨wp, 0, none⟩), .slice (some ⟨b, 0, none⟩) (j + 1) c, .pointer (some ⟨w.heap.size, 1, none⟩), .slice (some ⟨ab, 0, none⟩) al ac, .bool false, undef, undef, undef, .agg #[.int .u64 10000000000000000000, .slice none 0 0], .agg #[.int .u64 10000000000000000000, .slice none 0 0], .slice (some ⟨wp + 1, 0, none⟩) 1 1, .agg #[.int .u64 0, .slice (some ⟨ab, 0, none⟩) al ac], .int .i64 (kA : Int), .agg #[.int .u64 px, .slice pp pl pc], .int .i64 (kP : Int), u18, u19, u20, u21, u22, u23, u24, u25, u26, u27, undef, undef, undef, undef, undef], defers := [] } W := by
      intro W acc kA hA kP hPb
      rw [← hR]
      have c00 := (va.below acc lw).c0
      have c01 := (va.below acc lw).c1
      have d00 := (vp.below acc lp).c0
      have d01 := (vp.below acc lp).c1
      have hk1 := bits_le hPb H39.out
      have hk0 : (1 : Int) ≤ (kP : Int) := by have := bits_pos hPb (by omega) (by omega); simp at this; omega
      have w1 : IntKind.i64.wrap ((kP : Int) - 1) = (kP : Int) - 1 := by rw [IntKind.wrap_i64]; omega
      have w2 : IntKind.i64.wrap (2 * ((kP : Int) - 1)) = 2 * ((kP : Int) - 1) := by rw [IntKind.wrap_i64]; omega
      refine wpAnyIn_ready (rs := [4]) (by kernel_rfl) (by simp) ?_
      refine AllReadyIn.cons rfl (fun K hK => ?_) ?_
      · go_simp
        refine hK _ _ ?_
        have h := H1111100 W acc kA hA kP hPb
        rw [← hR] at h
        exact h
      exact AllReadyIn.nil
    have H1110000 : ∀ (W : World) (acc : Below wr.heap.size wr W) (kA : Nat) (hA : IsBits n kA), R 4 #[true, true, true, false, false, false, false] { tmps := #[.agg #[.int .u64 0, .slice (some ⟨ab, 0, none⟩) al ac], .pointer (some ⟨w.heap.size, 0, none⟩), .string { data := #[] }, .pointer (some ⟨wp, 0, none⟩), .slice (some ⟨b, 0, none⟩) (j + 1) c, .pointer (some ⟨w.heap.size, 1, none⟩), .slice (some ⟨ab, 0, none⟩) al ac, .bool false, undef, undef, undef, .agg #[.int .u64 10000000000000000000, .slice none 0 0], .agg #[.int .u64 10000000000000000000, .slice none 0 0], .slice (some ⟨wp + 1, 0, none⟩) 1 1, .agg #[.int .u64 0, .slice (some ⟨ab, 0, none⟩) al ac], .int .i64 (kA : Int), .agg #[.int .u64 px, .slice pp pl pc], u17, u18, u19, u20, u21, u22, u23, u24, u25, u26, u27, undef, undef, undef, undef, undef], defers := [] } W := by
      intro W acc kA hA
      rw [← hR]
      have c00 := (va.below acc lw).c0
      have c01 := (va.below acc lw).c1
      have d00 := (vp.below acc lp).c0
      have d01 := (vp.below acc lp).c1
      refine wpAnyIn_ready (rs := [3]) (by kernel_rfl) (by simp) ?_
      refine AllReadyIn.cons rfl (fun K hK => ?_) ?_
      · go_simp
        gi_wp2_with (refine ⟨trivial, ?_⟩; gi_at_call 11; refine (callsIn_wide.2 (bits_nat _ P W (hp.below acc))).mono ?_; rintro e W2 ⟨⟨kP, rfl, hPb⟩, hb⟩; skip)
        have h := H1111000 W2 (below_acc acc acc.size hb) kA hA kP hPb
        rw [← hR] at h
        exact h
      exact AllReadyIn.nil
    have H1100000 : ∀ (W : World) (acc : Below wr.heap.size wr W) (kA : Nat) (hA : IsBits n kA), R 5 #[true, true, false, false, false, false, false] { tmps := #[.agg #[.int .u64 0, .slice (some ⟨ab, 0, none⟩) al ac], .pointer (some ⟨w.heap.size, 0, none⟩), .string { data := #[] }, .pointer (some ⟨wp, 0, none⟩), .slice (some ⟨b, 0, none⟩) (j + 1) c, .pointer (some ⟨w.heap.size, 1, none⟩), .slice (some ⟨ab, 0, none⟩) al ac, .bool false, undef, undef, undef, .agg #[.int .u64 10000000000000000000, .slice none 0 0], .agg #[.int .u64 10000000000000000000, .slice none 0 0], .slice (some ⟨wp + 1, 0, none⟩) 1 1, .agg #[.int .u64 0, .slice (some ⟨ab, 0, none⟩) al ac], .int .i64 (kA : Int), u16, u17, u18, u19, u20, u21, u22, u23, u24, u25, u26, u27, undef, undef, undef, undef, undef], defers := [] } W := by
      intro W acc kA hA
      rw [← hR]
      have c00 := (va.below acc lw).c0
      have c01 := (va.below acc lw).c1
      have d00 := (vp.below acc lp).c0
      have d01 := (vp.below acc lp).c1
      refine wpAnyIn_ready (rs := [2]) (by kernel_rfl) (by simp) ?_
      refine AllReadyIn.cons rfl (fun K hK => ?_) ?_
      · go_simp
        refine hK _ _ ?_
        have h := H1110000 W acc kA hA
        rw [← hR] at h
        exact h
      exact AllReadyIn.nil
    have H1010000 : ∀ (W : World) (acc : Below wr.heap.size wr W), R 5 #[true, false, true, false, false, false, false] { tmps := #[.agg #[.int .u64 0, .slice (some ⟨ab, 0, none⟩) al ac], .pointer (some ⟨w.heap.size, 0, none⟩), .string { data := #[] }, .pointer (some ⟨wp, 0, none⟩), .slice (some ⟨b, 0, none⟩) (j + 1) c, .pointer (some ⟨w.heap.size, 1, none⟩), .slice (some ⟨ab, 0, none⟩) al ac, .bool false, undef, undef, undef, .agg #[.int .u64 10000000000000000000, .slice none 0 0], .agg #[.int .u64 10000000000000000000, .slice none 0 0], .slice (some ⟨wp + 1, 0, none⟩) 1 1, .agg #[.int .u64 0, .slice (some ⟨ab, 0, none⟩) al ac], u15, .agg #[.int .u64 px, .slice pp pl pc], u17, u18, u19, u20, u21, u22, u23, u24, u25, u26, u27, undef, undef, undef, undef, undef], defers := [] } W := by
      intro W acc
      rw [← hR]
      have c00 := (va.below acc lw).c0
      have c01 := (va.below acc lw).c1
      have d00 := (vp.below acc lp).c0
      have d01 := (vp.below acc lp).c1
      refine wpAnyIn_ready (rs := [1]) (by kernel_rfl) (by simp) ?_
      refine AllReadyIn.cons rfl (fun K hK => ?_) ?_
      · go_simp
        gi_wp2_with (refine ⟨trivial, ?_⟩; gi_at_call 11; refine (callsIn_wide.2 (bits_nat _ n W (hr.below acc))).mono ?_; rintro e W2 ⟨⟨kA, rfl, hA⟩, hb⟩; skip)
        have h := H1110000 W2 (below_acc acc acc.size hb) kA hA
        rw [← hR] at h
        exact h
      exact AllReadyIn.nil
    have H1000000 : ∀ (W : World) (acc : Below wr.heap.size wr W), R 6 #[true, false, false, false, false, false, false] { tmps := #[.agg #[.int .u64 0, .slice (some ⟨ab, 0, none⟩) al ac], .pointer (some ⟨w.heap.size, 0, none⟩), .string { data := #[] }, .pointer (some ⟨wp, 0, none⟩), .slice (some ⟨b, 0, none⟩) (j + 1) c, .pointer (some ⟨w.heap.size, 1, none⟩), .slice (some ⟨ab, 0, none⟩) al ac, .bool false, undef, undef, undef, .agg #[.int .u64 10000000000000000000, .slice none 0 0], .agg #[.int .u64 10000000000000000000, .slice none 0 0], .slice (some ⟨wp + 1, 0, none⟩) 1 1, .agg #[.int .u64 0, .slice (some ⟨ab, 0, none⟩) al ac], u15, u16, u17, u18, u19, u20, u21, u22, u23, u24, u25, u26, u27, undef, undef, undef, undef, undef], defers := [] } W := by
      intro W acc
      rw [← hR]
      have c00 := (va.below acc lw).c0
      have c01 := (va.below acc lw).c1
      have d00 := (vp.below acc lp).c0
      have d01 := (vp.below acc lp).c1
      refine wpAnyIn_ready (rs := [1, 2]) (by kernel_rfl) (by simp) ?_
      refine AllReadyIn.cons rfl (fun K hK => ?_) ?_
      · go_simp
        gi_wp2_with (refine ⟨trivial, ?_⟩; gi_at_call 11; refine (callsIn_wide.2 (bits_nat _ n W (hr.below acc))).mono ?_; rintro e W2 ⟨⟨kA, rfl, hA⟩, hb⟩; skip)
        have h := H1100000 W2 (below_acc acc acc.size hb) kA hA
        rw [← hR] at h
        exact h
      refine AllReadyIn.cons rfl (fun K hK => ?_) ?_
      · go_simp
        refine hK _ _ ?_
        have h := H1010000 W acc
        rw [← hR] at h
        exact h
      exact AllReadyIn.nil
    have H0010000 : ∀ (W : World) (acc : Below wr.heap.size wr W), R 6 #[false, false, true, false, false, false, false] { tmps := #[.agg #[.int .u64 0, .slice (some ⟨ab, 0, none⟩) al ac], .pointer (some ⟨w.heap.size, 0, none⟩), .string { data := #[] }, .pointer (some ⟨wp, 0, none⟩), .slice (some ⟨b, 0, none⟩) (j + 1) c, .pointer (some ⟨w.heap.size, 1, none⟩), .slice (some ⟨ab, 0, none⟩) al ac, .bool false, undef, undef, undef, .agg #[.int .u64 10000000000000000000, .slice none 0 0], .agg #[.int .u64 10000000000000000000, .slice none 0 0], .slice (some ⟨wp + 1, 0, none⟩) 1 1, u14, u15, .agg #[.int .u64 px, .slice pp pl pc], u17, u18, u19, u20, u21, u22, u23, u24, u25, u26, u27, undef, undef, undef, undef, undef], defers := [] } W := by
      intro W acc
      rw [← hR]
      have c00 := (va.below acc lw).c0
      have c01 := (va.below acc lw).c1
      have d00 := (vp.below acc lp).c0
      have d01 := (vp.below acc lp).c1
      refine wpAnyIn_ready (rs := [0]) (by kernel_rfl) (by simp) ?_
      refine AllReadyIn.cons rfl (fun K hK => ?_) ?_
      · go_simp
        refine hK _ _ ?_
        have h := H1010000 W acc
        rw [← hR] at h
        exact h
      exact AllReadyIn.nil
    have H0000000 : ∀ (W : World) (acc : Below wr.heap.size wr W), R 7 #[false, false, false, false, false, false, false] { tmps := #[.agg #[.int .u64 0, .slice (some ⟨ab, 0, none⟩) al ac], .pointer (some ⟨w.heap.size, 0, none⟩), .string { data := #[] }, .pointer (some ⟨wp, 0, none⟩), .slice (some ⟨b, 0, none⟩) (j + 1) c, .pointer (some ⟨w.heap.size, 1, none⟩), .slice (some ⟨ab, 0, none⟩) al ac, .bool false, undef, undef, undef, .agg #[.int .u64 10000000000000000000, .slice none 0 0], .agg #[.int .u64 10000000000000000000, .slice none 0 0], .slice (some ⟨wp + 1, 0, none⟩) 1 1, u14, u15, u16, u17, u18, u19, u20, u21, u22, u23, u24, u25, u26, u27, undef, undef, undef, undef, undef], defers := [] } W := by
      intro W acc
      rw [← hR]
      have c00 := (va.below acc lw).c0
      have c01 := (va.below acc lw).c1
      have d00 := (vp.below acc lp).c0
      have d01 := (vp.below acc lp).c1
      refine wpAnyIn_ready (rs := [0, 2]) (by kernel_rfl) (by simp) ?_
      refine AllReadyIn.cons rfl (fun K hK => ?_) ?_
      · go_simp
        refine hK _ _ ?_
        have h := H1000000 W acc
        rw [← hR] at h
        exact h
      refine AllReadyIn.cons rfl (fun K hK => ?_) ?_
      · go_simp
        refine hK _ _ ?_
        have h := H0010000 W acc
        rw [← hR] at h
        exact h
      exact AllReadyIn.nil
    exact H0000000 wr.drew (Below.refl _ wr).drew
/-- Text of any number. -/
theorem text_any (v : Value) (n : Int) (w : World) (htab : Tab w) (h : IsNat w v n) (hn : n < pw 39) : Calls Tryd.prog 13 #[v] w (RetText n w) := by
  have g := h
  rcases h with ⟨wn, rfl⟩ | ⟨b, t, len, cap, l, rfl, ha, h2, hc, hl, hm, hw, hz, rfl⟩
  · obtain ⟨u, rfl⟩ := Int.eq_ofNat_of_zero_le wn.1
    exact text_of_word u (by have := wn.2; omega) w htab
  · refine text_many b len cap _ w htab g hn ?_
    obtain ⟨k, rfl⟩ : ∃ k, len = k + 1 := ⟨len - 1, by omega⟩
    rw [Nat.add_sub_cancel] at hz
    have hwl := hw.getD k
    have hs := seg_bd hw 0 k (by omega)
    have hp := pw_pos k
    rw [← seg_all, seg_succ (by omega), Nat.zero_add]
    have : 0 < pw k * l.getD k 0 := Int.mul_pos hp (by have := hwl.1; omega)
    omega
end Go.Proofs.YtjoppmkknbpjbaaDoor
