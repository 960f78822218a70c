/- Contract of the document's NatDiv: the long division, limb by limb. -/
import Derived.Test.YtogpephnkkofjaaGreatDoorRefDivKit
import Derived.Deep.LoopGhost
import Derived.BigQuiet
import Derived.Deep.CutBlock
import Derived.Deep.DeepCutAuto
namespace Go.Proofs.YtogpephnkkofjaaGreatDoor
open Go.RowKit
set_option linter.unusedVariables false

theorem natShift_back (s : Value) (n : Int) (k : Nat) (z : Int) (hz : z = -(k : Int)) (hk : k ≤ 33554432) (w : World) {K : Nat} (h : IsNum w s n) (hn : n < lpw K) (hK : K ≤ 1048576) :
    Calls Tryz.prog 23 #[s, .int .i64 z] w (RetNum (n / 2 ^ k) w) := by
  subst hz
  by_cases h0 : k = 0
  · subst h0
    have := natShift_pos s n 0 hk w h hn hK
    rw [Int.pow_zero, Int.mul_one] at this
    rw [Int.pow_zero, Int.ediv_one]
    exact this
  · exact natShift_neg s n k (by omega) hk w h hn hK
/-- What NatDiv answers. -/
def RetPair (q r : Int) (w : World) (e : Ending) (w' : World) : Prop := ∃ s t, e = .returned (.tuple #[s, t]) ∧ IsNum w' s q ∧ IsNum w' t r ∧ Below w.heap.size w w'
theorem arr_app_cell {w : World} {b : Nat} {t : TypeId} {l zs : List Int} (h : Arr w b t .u32 (l ++ zs)) {j : Nat} (hj : j < l.length) : w.cell? ⟨b, j, none⟩ = some (.int .u32 (l.getD j 0)) := by
  rw [h.cell j (by simp; omega)]
  simp [List.getD_eq_getElem?_getD, List.getElem?_append_left hj]
theorem arr_app_set {w : World} {b : Nat} {t : TypeId} {l zs : List Int} (h : Arr w b t .u32 (l ++ zs)) {j : Nat} (hj : j < l.length) (x : Int) : Arr (w.setCell ⟨b, j, none⟩ (.int .u32 x)) b t .u32 (l.set j x ++ zs) := by
  have := h.set j x
  rw [List.set_append_left _ _ hj] at this
  exact this

set_option maxRecDepth 100000 in
set_option maxHeartbeats 16000000 in
theorem natDiv_long (K : Nat) (hK : K ≤ 100000) (sa : Value) (a : Int) (bb tb n cb : Nat) (lb : List Int) (w : World) (ha : IsNum w sa a) (hb : Arr w bb tb .u32 lb) (hlb : n ≤ lb.length) (hwb : Limbs lb) (hn : 2 ≤ n) (hn2 : n ≤ 100000) (hzb : lb.getD (n - 1) 0 ≠ 0) (hge : ¬ a < lval (lb.take n)) (haK : a < lpw K) :
    Calls Tryz.prog 11 #[sa, .slice (some ⟨bb, 0, none⟩) n cb] w (RetPair (a / lval (lb.take n)) (a % lval (lb.take n)) w) := by
  have hbL : (lb.take n).length = n := by rw [List.length_take, Nat.min_eq_left hlb]
  have wB := hwb.take n
  have hzB : (lb.take n).getD (n - 1) 0 ≠ 0 := by rw [getD_take, if_pos (by omega)]; exact hzb
  have hbn : IsNum w (.slice (some ⟨bb, 0, none⟩) n cb) (lval (lb.take n)) := isNum_arr hb hlb (by omega) hwb (fun _ => hzb)
  obtain ⟨pa, la, ca, rfl⟩ := ha.shape
  obtain ⟨b, hbd⟩ : ∃ b, lval (lb.take n) = b := ⟨_, rfl⟩
  have hbK : b < lpw n := by rw [← hbd]; have := (lval_bd wB).2; rw [hbL] at this; exact this
  have cm := natCmp_num _ _ a b w ha (by rw [← hbd]; exact hbn)
  rw [hbd] at hge hbn
  have hd : ¬ cmpI a b < 0 := by unfold cmpI; rw [if_neg hge]; split <;> omega
  obtain ⟨d, hdd⟩ : ∃ d, cmpI a b = d := ⟨_, rfl⟩
  rw [hdd] at cm hd
  have hn1 : ((n : Int) == 1) = false := by simp; omega
  rw [hbd]
  have Hbd := Lib.hid hbd
  have Hge := Lib.hid hge
  have HaK := Lib.hid haK
  have HzB := Lib.hid hzB
  have HbK := Lib.hid hbK
  have Hb0 : Hid (Arr w bb tb .u32 lb) := Lib.hid hb
  have HbL := Lib.hid hbL
  clear hbd hdd hzb hlb hge haK hzB hbK hb hbL
  go_enter Tryz.func11, Tryz.ntmps11
  go_wp2_with fail
  refine cm.mono ?_
  rintro e w1 ⟨rfl, hb1⟩
  have nb := natBits_num _ b w1 (hbn.below hb1)
  clear cm
  have n0 : (0 : Int) ≤ (n : Int) := by omega
  have n1 : (n : Int) ≤ 100000 := by omega
  have Hn2 := Lib.hid hn2
  clear hn2
  go_wp2_with fail
  refine nb.mono ?_
  rintro e w2 ⟨⟨k, rfl, hk⟩, rfl⟩
  have hk2 := bits_len (by rw [Hbd.out]; exact hk) wB (fun _ => by rw [HbL.out]; exact HzB.out) (by rw [HbL.out]; omega)
  rw [HbL.out] at hk2
  obtain ⟨S, hS⟩ : ∃ S, 32 * n - k = S := ⟨_, rfl⟩
  have dS : 32 * (n : Int) - (k : Int) = (S : Int) := by omega
  have nrm := lnorm hk (by omega) (show 1 ≤ n by omega) (show k + S = 32 * n by omega)
  have S31 : S ≤ 31 := by omega
  obtain ⟨V, hV⟩ : ∃ V, b * 2 ^ S = V := ⟨_, rfl⟩
  have sy := natShift_pos _ b S (by omega) w1 (hbn.below hb1) HbK.out (by omega)
  rw [hV] at sy nrm
  have HV := Lib.hid hV
  have Hn := Lib.hid nrm
  clear hS hV nb hk hk2 nrm
  go_wp2_with fail
  refine sy.mono ?_
  rintro e w2 ⟨y, rfl, hy, hb2⟩
  obtain ⟨Y, hyY, hyV, hyl⟩ := num_limbs hy Hn.out.2
  have wY := hyY.limbs
  have hnl := norm_limbs wY hyl hn (by rw [hyV]; exact Hn.out.1) (by rw [hyV]; exact Hn.out.2)
  have hyne : Y ≠ [] := by
    rintro rfl
    have := hnl.1
    simp at this
    omega
  rcases hyY with ⟨_, e⟩ | ⟨yb, ty, yn, yc, ly, rfl, hay, hly, hly2, wly, hYd⟩
  · exact absurd e hyne
  obtain rfl : yn = n := by
    have := hnl.1
    rw [hYd, List.length_take, Nat.min_eq_left hly] at this
    exact this
  have hvl : lseg ly 0 yn = V := by rw [lseg_all, ← hYd, hyV]
  have hnorm : 2147483648 ≤ ly.getD (yn - 1) 0 := by
    have := hnl.2
    rw [hYd, getD_take, if_pos (by omega)] at this
    exact this
  have hB2 := hb1.trans (hb2.mono hb1.size)
  have sx := natShift_pos (.slice pa la ca) a S (by omega) (w2.alloc (.cells #[] 66)) ((ha.below hB2).below (by go_grown)) HaK.out (by omega)
  obtain ⟨X, hX⟩ : ∃ X, a * 2 ^ S = X := ⟨_, rfl⟩
  rw [hX] at sx
  have HX := Lib.hid hX
  clear hX sy hy hyne hnl hyl
  go_wp2_with fail
  refine sx.mono ?_
  rintro e w3 ⟨sx', rfl, hx, hb3⟩
  have p2 : (0 : Int) < 2 ^ S := Int.pow_pos (by decide)
  have V0 : 0 < V := by have := Hn.out.1; have := lpw_pos (yn - 1); omega
  have b0 : 0 < b := by
    apply Int.lt_of_not_ge
    intro hc
    have : b * 2 ^ S ≤ 0 * 2 ^ S := Int.mul_le_mul_of_nonneg_right hc (by omega)
    rw [HV.out, Int.zero_mul] at this
    omega
  have X0 : 0 < X := by rw [← HX.out]; exact Int.mul_pos (by have := Hge.out; omega) p2
  have XK : X < lpw (K + 1) := by
    rw [← HX.out]
    have h1 : a * 2 ^ S < lpw K * 2 ^ S := Int.mul_lt_mul_of_pos_right HaK.out p2
    have h2 : lpw K * 2 ^ S ≤ lpw K * 2147483648 := Int.mul_le_mul_of_nonneg_left (two32 S31) (Int.le_of_lt (lpw_pos K))
    have := lpw_pos K
    simp only [lpw]
    omega
  obtain ⟨A, hA, hAv, hAl⟩ := num_limbs hx XK
  have wA := hA.limbs
  have hA1 : 1 ≤ A.length := by
    apply Nat.le_of_not_lt
    intro hc
    have : A = [] := List.eq_nil_of_length_eq_zero (by omega)
    subst this
    simp [lval] at hAv
    omega
  rcases hA with ⟨_, e⟩ | ⟨xb', tx', xn, xc, lx', rfl, hax, hlx', hlx2, wlx, hAd⟩
  · rw [e] at hA1; simp at hA1
  have hxn : A.length = xn := by rw [hAd, List.length_take, Nat.min_eq_left hlx']
  rw [hxn] at hA1 hAl
  have Hxn := Lib.hid hxn
  clear hxn hlx2
  have hz2 := hb3.size
  rw [World.size_alloc] at hz2
  have own0 : Own w3 w2.heap.size .u32 66 (.slice (some ⟨w2.heap.size, 0, none⟩) 0 0) [] := .inr ⟨w2.heap.size, 0, rfl, (Arr.new w2 66 .u32 [] w2.heap.size rfl).below hb3 (by simp), Nat.le_refl _⟩
  have src1 : Src Tryz.prog 1 28 (.slice (some ⟨xb', 0, none⟩) xn xc) A.length (A.map (Value.int .u32)) w3 := by
    rw [Hxn.out]
    refine Src.ofSlice w3 Tryz.underlying28 _ _ _ _ (by rw [List.length_map, Hxn.out, Nat.mul_one]) (fun j u hj => ?_) (fun u hu => ?_)
    · have hjn : j < A.length := by
        have := (List.getElem?_eq_some_iff.1 hj).1
        rwa [List.length_map] at this
      have hadd : (⟨xb', 0, none⟩ : Addr).add j = ⟨xb', j, none⟩ := by unfold Addr.add; split <;> simp_all
      have hx : A.getD j 0 = lx'.getD j 0 := by rw [Hxn.out] at hjn; rw [hAd, getD_take, if_pos hjn]
      rw [hadd, hax.cell j (by rw [Hxn.out] at hjn; omega), ← hj, List.getElem?_map, List.getElem?_eq_getElem hjn, ← hx]
      simp [List.getD_eq_getElem?_getD, List.getElem?_eq_getElem hjn]
    · obtain ⟨x, _, rfl⟩ := List.mem_map.1 hu
      rfl
  obtain ⟨v1, w4, hrun1, own1, bel1⟩ := app_src 28 Tryz.underlying28 info32 (by decide) (by omega) own0 src1 (by rw [Hxn.out]; exact hA1) (by rw [Hxn.out]; show 0 + xn ≤ 4294967296; omega)
  have hc2 : ∀ j u, [Value.int .u32 0, Value.int .u32 0][j]? = some u → (w4.alloc (.cells #[.int .u32 0, .int .u32 0] 66)).cell? ((⟨w4.heap.size, 0, none⟩ : Addr).add j) = some u := by
    intro j u hj
    have hadd : (⟨w4.heap.size, 0, none⟩ : Addr).add j = ⟨w4.heap.size, j, none⟩ := by unfold Addr.add; split <;> simp_all
    rw [hadd, cell_of_row _ _ j _ _ (0, 0) (heap_new w4 _ _ rfl)]
    simpa using hj
  have hz4 := bel1.size
  obtain ⟨v2, w5, hrun2, own2, bel2⟩ := app_src (ys := [0, 0]) 28 Tryz.underlying28 info32 (by decide) (w := w4.alloc (.cells #[.int .u32 0, .int .u32 0] 66)) (B := w2.heap.size) (by simp; omega) (own1.alloc _)
    (Src.ofSlice _ Tryz.underlying28 ⟨w4.heap.size, 0, none⟩ 2 2 [.int .u32 0, .int .u32 0] (by simp) hc2 (fun u hu => by simp at hu; subst hu; rfl)) (by simp) (by rw [List.nil_append, Hxn.out]; show xn + 2 ≤ 4294967296; omega)
  simp only [List.nil_append] at own1 own2
  have hz5 := bel2.size
  rw [World.size_alloc] at hz5
  have hB4 : Below w2.heap.size w2 w4 := ((hb3.mono (by simp)).trans bel1 |> fun h => Below.trans (by go_grown) h)
  have hB5 : Below w2.heap.size w2 w5 := (hB4.alloc (by omega) _).trans bel2
  have hay5 : Arr w5 yb ty .u32 ly := hay.below hB5 hay.lt
  have hBw5 : Below w.heap.size w w5 := hB2.trans (hB5.mono hB2.size)
  obtain ⟨L, hL⟩ : ∃ L, xn + 2 = L := ⟨_, rfl⟩
  rcases own2 with ⟨_, e⟩ | ⟨xb, zx, hv2, haX, hxb⟩
  · simp at e
  have hL2 : (A ++ [0, 0]).length = L := by rw [List.length_append, Hxn.out]; exact hL
  rw [hL2] at hv2
  subst hv2
  have hxy : yb ≠ xb := by have := hay.lt; omega
  have hz25 : w2.heap.size ≤ w5.heap.size := by omega
  have Hrun1 := Lib.hid hrun1
  have Hrun2 := Lib.hid hrun2
  clear hrun1 hrun2 own0 own1 src1 hc2 hax bel1 bel2 hz2 hz4 hz5 hx hb3 p2 b0 hL2
  have hcy1 := hay5.cell (yn - 1) (by omega)
  have hcy2 := hay5.cell (yn - 2) (by omega)
  obtain ⟨t1, ht1⟩ : ∃ t1, ly.getD (yn - 1) 0 = t1 := ⟨_, rfl⟩
  obtain ⟨t2, ht2⟩ : ∃ t2, ly.getD (yn - 2) 0 = t2 := ⟨_, rfl⟩
  rw [ht1] at hcy1 hnorm
  rw [ht2] at hcy2
  have lt1 := wly.getD (yn - 1)
  have lt2 := wly.getD (yn - 2)
  rw [ht1] at lt1
  rw [ht2] at lt2
  obtain ⟨t10, t11⟩ := lt1
  obtain ⟨t20, t21⟩ := lt2
  have hynx : yn ≤ xn := by
    apply Nat.le_of_not_lt
    intro hc
    have h1 := (lval_bd wA).2
    rw [hAv, Hxn.out] at h1
    have h2 := lpw_mono (a := xn) (b := yn - 1) (by omega)
    have h3 : V ≤ X := by
      rw [← HX.out, ← HV.out]
      exact Int.mul_le_mul_of_nonneg_right (by have := Hge.out; omega) (Int.le_of_lt (Int.pow_pos (by decide)))
    have h4 := Hn.out.1
    have h5 := lpw_pos (yn - 1)
    omega
  obtain ⟨M, hM⟩ : ∃ M, L - yn = M := ⟨_, rfl⟩
  have hML : M + yn = L := by omega
  have hMi : (L : Int) - (yn : Int) = (M : Int) := by omega
  have hLb : (L : Int) ≤ 1000000 := by omega
  have hMb : (M : Int) ≤ 1000000 := by omega
  have hmk := make32 M M rfl (by omega)
  have start : LDivsAt X V yn L M 0 (A ++ [0, 0]) (List.replicate M 0) := by
    rw [← hL, ← Hxn.out]
    refine ldivs_start wA hAv (by rw [Hxn.out, hL]; exact hML) hn ?_
    have := Hn.out.1
    have := lpw_pos (yn - 1)
    omega
  have aq : Arr (w5.alloc (.cells (zeros .u32 M) 66)) w5.heap.size 66 .u32 (List.replicate M 0) := Arr.zeros w5 _ _ M _ rfl
  have ax := haX.alloc (.cells (zeros .u32 M) 66)
  have ay := hay5.alloc (.cells (zeros .u32 M) 66)
  have hBw6 : Below w.heap.size w (w5.alloc (.cells (zeros .u32 M) 66)) := hBw5.alloc hBw5.size _
  have hxq : xb ≠ w5.heap.size := Nat.ne_of_lt haX.lt
  have hyq : yb ≠ w5.heap.size := Nat.ne_of_lt hay5.lt
  have hqw : w.heap.size ≤ w5.heap.size := hBw5.size
  have hxw : w.heap.size ≤ xb := by have := hB2.size; omega
  have Ht1 := Lib.hid ht1
  have Ht2 := Lib.hid ht2
  have HM := Lib.hid hM
  have HML := Lib.hid hML
  have HL := Lib.hid hL
  have Hst := Lib.hid start
  clear ht1 ht2 hM hML hL start haX hay5 hBw5 hB4 hB5 hB2 hb1 hb2 hay hAl hxb hz25
  go_wp2_with (first | (at_builtin; refine Lib.wpList_append_run _ rfl _ _ _ _ rfl _ _ rfl rfl _ _ Hrun1.out ?_) | (at_builtin; refine Lib.wpList_append_run _ rfl _ _ _ _ rfl _ _ rfl rfl _ _ Hrun2.out ?_))
  generalize (w5.alloc (.cells (zeros .u32 M) 66)) = w6 at aq ax ay hBw6 ⊢
  generalize w5.heap.size = qb at aq hxq hyq hqw ⊢
  have hz1 : (t1 == 0) = false := by simp; omega
  go_loopg [15] M (fun gh i wr => ∃ (k : Nat) (z : Int) (lu lq : List Int), gh = M - k ∧ k ≤ M ∧ z = (M : Int) - 1 - k ∧ i = .int .i64 z ∧ LDivsAt X V yn L M k lu lq ∧ Arr wr xb 66 .u32 (lu ++ List.replicate zx 0) ∧ Arr wr yb ty .u32 ly ∧ Arr wr qb 66 .u32 lq ∧ Below w.heap.size w wr)
  case atStart => exact ⟨0, (M : Int) - 1, _, _, rfl, Nat.zero_le _, by omega, rfl, Hst.out, ax, ay, aq, hBw6⟩
  case round =>
    clear ax ay aq hBw6
    obtain ⟨k, z, lu, lq, hgh, hk, hz, rfl, hat, ax, ay, aq, hB⟩ := hrel
    have Hgh := Lib.hid hgh
    clear hgh
    by_cases hlt : k < M
    · obtain ⟨i, hi⟩ : ∃ i, M - 1 - k = i := ⟨_, rfl⟩
      obtain rfl : z = (i : Int) := by omega
      have ld := ldivs_lead hat hlt HML.out hn wly hly hvl (by rw [Ht1.out]; exact hnorm)
      rw [hi, Ht1.out, Ht2.out] at ld
      have hlu := hat.1
      have wlu := hat.2.1
      have hiL : i + yn < L := by have := HML.out; omega
      have hcx2 := arr_app_cell ax (j := i + yn) (by omega)
      have hcx1 := arr_app_cell ax (j := i + yn - 1) (by omega)
      have hcx0 := arr_app_cell ax (j := i + yn - 2) (by omega)
      obtain ⟨u2, hu2⟩ : ∃ u2, lu.getD (i + yn) 0 = u2 := ⟨_, rfl⟩
      obtain ⟨u1, hu1⟩ : ∃ u1, lu.getD (i + yn - 1) 0 = u1 := ⟨_, rfl⟩
      obtain ⟨u0, hu0⟩ : ∃ u0, lu.getD (i + yn - 2) 0 = u0 := ⟨_, rfl⟩
      rw [show i + (yn - 1) = i + yn - 1 by omega, show i + (yn - 2) = i + yn - 2 by omega, hu2, hu1, hu0] at ld
      rw [hu2] at hcx2
      rw [hu1] at hcx1
      rw [hu0] at hcx0
      obtain ⟨U, hU⟩ : ∃ U, lseg lu i (yn + 1) = U := ⟨_, rfl⟩
      rw [hU] at ld
      obtain ⟨st, stb, str⟩ := ld.start
      have hor := or_high ld.l2.1 ld.l2.2 ld.l1
      obtain ⟨u20, u21⟩ := ld.l2
      obtain ⟨u10, u11⟩ := ld.l1
      obtain ⟨u00, u01⟩ := ld.l0
      obtain ⟨T, hT⟩ : ∃ T, u2 * 4294967296 + u1 = T := ⟨_, rfl⟩
      have hT0 : 0 ≤ T := by omega
      have hT1 : T < 18446744073709551616 := by omega
      rw [hT] at hor
      have Hat := Lib.hid hat
      have Hld := Lib.hid ld
      have Hu2 := Lib.hid hu2
      have Hu0 := Lib.hid hu0
      have Hlt := Lib.hid hlt
      have HU := Lib.hid hU
      have Hlu := Lib.hid hlu
      have Hi := Lib.hid hi
      have HT := Lib.hid hT
      have s1 : IntKind.i64.wrap ((i : Int) + (yn : Int)) = (i : Int) + (yn : Int) := IntWalk.i64_in _ (by omega)
      have s2 : (0 : Int) ≤ (i : Int) + (yn : Int) := by omega
      have s3 : ((i : Int) + (yn : Int)).toNat = i + yn := by omega
      have s4 : IntKind.i64.wrap ((i : Int) + (yn : Int) - 1) = (i : Int) + (yn : Int) - 1 := IntWalk.i64_in _ (by omega)
      have s5 : (0 : Int) ≤ (i : Int) + (yn : Int) - 1 := by omega
      have s6 : ((i : Int) + (yn : Int) - 1).toNat = i + yn - 1 := by omega
      have s7 : (i : Int) + (yn : Int) < (L : Int) := by omega
      have s8 : (1 : Int) ≤ (i : Int) + (yn : Int) := by omega
      have hw2 : IntKind.u64.wrap (u2 * 4294967296) = u2 * 4294967296 := by rw [IntKind.wrap_u64]; omega
      clear hat ld hu2 hu1 hu0 hU hlu hi hz hT
      go_wp2_with fail
      go_quiet (fail)
      have ax2 := ax.drewN nq
      have ay2 := ay.drewN nq
      have aq2 := aq.drewN nq
      have hB2 : Below w.heap.size w (wr.drewN nq) := below_drewN hB nq
      have hcx0' := arr_app_cell ax2 (j := i + yn - 2) (by rw [Hlu.out]; omega)
      clear hcx2 hcx1 hcx0 hor s1 s2 s3 s4 s5 s6 s7 s8 hw2 ax ay aq hB
      generalize wr.drewN nq = wo at ax2 ay2 aq2 hB2 hcx0' ⊢
      obtain ⟨G, hG⟩ : ∃ G, T / t1 = G := ⟨_, rfl⟩
      obtain ⟨Rm, hRm⟩ : ∃ Rm, T % t1 = Rm := ⟨_, rfl⟩
      rw [HT.out, hG] at stb
      rw [HT.out, hRm] at str
      rw [HT.out, hG, hRm] at st
      rw [Hu0.out] at hcx0'
      go_upto_block 2 with fail
      go_cut [17] (fun s17 wx => wo = wx ∧ ∃ gf : Int, s17 = .int .u64 gf ∧ Hid (Limb gf ∧ gf * V ≤ U + V ∧ U < gf * V + V))
      case first =>
        go_wp2_with fail
        go_loopg [17, 18] G.toNat (fun g2 g r wr2 => ∃ gv rv, g2 = gv.toNat ∧ g = .int .u64 gv ∧ r = .int .u64 rv ∧ LGuess U V u2 u1 t1 gv rv ∧ gv ≤ 4294967297 ∧ rv < 4294967296 ∧ wo = wr2)
        case atStart => exact ⟨G, Rm, rfl, by rw [hG], by rw [hRm], st, stb, str, rfl⟩
        case round =>
          clear st stb str hG hRm
          obtain ⟨gv, rv, hg2, rfl, rfl, hgs, gvb, rvb, rfl⟩ := hrel
          have Hg2 := Lib.hid hg2
          have gv0 := hgs.g0
          have rv0 := hgs.r0
          have hgt : 0 ≤ gv * t2 ∧ gv * t2 ≤ 4294967297 * 4294967295 := ⟨Int.mul_nonneg gv0 t20, Int.mul_le_mul gvb (by omega) t20 (by decide)⟩
          obtain ⟨gt0, gt1⟩ := hgt
          have hor := or_high rv0 rvb (Hld.out).l0
          have Hgs := Lib.hid hgs
          clear hg2 hgs
          by_cases hcnd : 4294967296 ≤ gv ∨ rv * 4294967296 + u0 < gv * t2
          · obtain ⟨gp, hgp⟩ := (Hgs.out).step Hld.out hcnd
            obtain ⟨g', hg'⟩ : ∃ g', gv - 1 = g' := ⟨_, rfl⟩
            obtain ⟨r', hr'⟩ : ∃ r', rv + t1 = r' := ⟨_, rfl⟩
            rw [hg', hr'] at hgp
            have r'0 : 0 ≤ r' := by omega
            have r'1 : r' < 8589934592 := by omega
            have Hgp := Lib.hid hgp
            have Hg' := Lib.hid (show g'.toNat < gv.toNat by omega)
            have g'b : g' ≤ 4294967297 := by omega
            clear hgp
            by_cases hbr : 4294967296 ≤ r'
            · have hdn := Lib.hid ((Hgp.out).done Hld.out (.inl hbr))
              by_cases hge4 : 4294967296 ≤ gv
              · clear hcnd hor
                go_wp2_with fail
                go_meet
                exact ⟨rfl, g', rfl, hdn⟩
              · have hlt4 : rv * 4294967296 + u0 < gv * t2 := by omega
                clear hcnd
                go_wp2_with fail
                go_meet
                exact ⟨rfl, g', rfl, hdn⟩
            · by_cases hge4 : 4294967296 ≤ gv
              · clear hcnd hor
                go_wp2_with fail
                go_roundg g'.toNat
                case measure => have := Hg2.out; have := Hg'.out; omega
                case rel => exact ⟨g', r', rfl, rfl, rfl, Hgp.out, g'b, by omega, rfl⟩
              · have hlt4 : rv * 4294967296 + u0 < gv * t2 := by omega
                clear hcnd
                go_wp2_with fail
                go_roundg g'.toNat
                case measure => have := Hg2.out; have := Hg'.out; omega
                case rel => exact ⟨g', r', rfl, rfl, rfl, Hgp.out, g'b, by omega, rfl⟩
          · have hge4 : gv < 4294967296 := by omega
            have hnl : gv * t2 ≤ rv * 4294967296 + u0 := by omega
            have hdn := Lib.hid ((Hgs.out).done Hld.out (.inr ⟨hge4, hnl⟩))
            clear hcnd
            go_wp2_with fail
            go_meet
            exact ⟨rfl, gv, rfl, hdn⟩
      case rest =>
        clear st stb str hG hRm hcx0'
        obtain ⟨rfl, gf, rfl, hdnH⟩ := hcut
        have hdn := hdnH.out
        clear hdnH
        have Hdn := Lib.hid hdn
        have g0 : 0 ≤ gf := hdn.1.1
        have g1 : gf < 4294967296 := hdn.1.2
        clear hdn
        go_wp2_with fail
        go_loopg [19, 20, 21] yn (fun g3 c bw kk w3 => ∃ (k3 : Nat) (cv bv : Int) (lk : List Int), g3 = yn - k3 ∧ k3 ≤ yn ∧ kk = .int .i64 k3 ∧ c = .int .u64 cv ∧ bw = .int .u64 bv ∧ TakeL lu ly lk i k3 gf cv bv ∧ Arr w3 xb 66 .u32 (lk ++ List.replicate zx 0) ∧ Arr w3 yb ty .u32 ly ∧ Arr w3 qb 66 .u32 lq ∧ Below w.heap.size w w3)
        case atStart => exact ⟨0, 0, 0, lu, rfl, Nat.zero_le _, rfl, rfl, rfl, ⟨⟨by decide, by decide⟩, .inl rfl, rfl, (Hat.out).2.1, fun _ _ => rfl, by simp [lseg_zero]⟩, ax2, ay2, aq2, hB2⟩
        case round =>
          obtain ⟨k3, cv, bv, lk, hg3, hk3, rfl, rfl, rfl, htk, ax3, ay3, aq3, hB3⟩ := hrel
          have Hg3 := Lib.hid hg3
          clear hg3
          have wlu := (Hat.out).2.1
          have hlk := htk.2.2.1
          rw [Hlu.out] at hlk
          have Hwlu := Lib.hid wlu
          obtain ⟨c0, c1⟩ := htk.1
          have hbv := htk.2.1
          have b0 : 0 ≤ bv := by omega
          have b1 : bv ≤ 1 := by omega
          by_cases hlt3 : k3 < yn
          · have st3 := htk.step wlu wly ⟨g0, g1⟩ (by rw [Hlu.out]; omega) (by omega)
            have hrs := htk.2.2.2.2.1 (i + k3) (by omega)
            have hcx := arr_app_cell ax3 (j := i + k3) (by omega)
            have hfx := ax3.free (i + k3)
            have hcy := ay3.cell k3 (by omega)
            have lx := wlu.getD (i + k3)
            have lyk := wly.getD k3
            have hml := mul_limb ⟨g0, g1⟩ lyk c0 c1
            rw [hrs] at hcx
            obtain ⟨x, hx⟩ : ∃ x, lu.getD (i + k3) 0 = x := ⟨_, rfl⟩
            obtain ⟨y, hy⟩ : ∃ y, ly.getD k3 0 = y := ⟨_, rfl⟩
            rw [hx] at hcx lx st3
            rw [hy] at hcy lyk hml st3
            obtain ⟨x0, x1⟩ := lx
            obtain ⟨y0, y1⟩ := lyk
            obtain ⟨P, hP⟩ : ∃ P, cv + gf * y = P := ⟨_, rfl⟩
            rw [hP] at st3
            have hP0 : 0 ≤ P := by omega
            have hP1 : P < 18446744073709551616 := by omega
            have hand := and_mask32 hP0 hP1
            have hm0 : 0 ≤ gf * y := hml.1
            have hm1 : gf * y ≤ 18446744065119617025 := hml.2
            obtain ⟨lo, hlo⟩ : ∃ lo, P % 4294967296 = lo := ⟨_, rfl⟩
            obtain ⟨c2, hc2⟩ : ∃ c2, P / 4294967296 = c2 := ⟨_, rfl⟩
            rw [hlo] at hand
            rw [hlo, hc2] at st3
            have lo0 : 0 ≤ lo := by omega
            have lo1 : lo < 4294967296 := by omega
            obtain ⟨D, hD⟩ : ∃ D, (x - lo - bv) % 18446744073709551616 = D := ⟨_, rfl⟩
            rw [hD] at st3
            have D0 : 0 ≤ D := by omega
            have D1 : D < 18446744073709551616 := by omega
            have hD2 : IntKind.u64.wrap (IntKind.u64.wrap (x - lo) - bv) = D := by rw [IntKind.wrap_u64, IntKind.wrap_u64, ← hD]; omega
            have hD3 : IntKind.u64.wrap (x - lo - bv) = D := by rw [IntKind.wrap_u64, ← hD]
            have St3 := Lib.hid st3
            have Hlk := Lib.hid hlk
            clear st3 htk hbv hrs hx hy hml wlu hlk hlo
            go_wp2_with fail
            go_roundg (yn - (k3 + 1))
            case measure => have := Hg3.out; omega
            case rel => exact ⟨k3 + 1, c2, D / 9223372036854775808, _, rfl, by omega, by go_num, rfl, rfl, St3.out, arr_app_set ax3 (by rw [Hlk.out]; omega) _, ay3.other hxy _, aq3.other (Ne.symm hxq) _, hB3.setCell (p := ⟨xb, i + k3, none⟩) hxw _⟩
          · obtain rfl : k3 = yn := by omega
            have tp := htk.top wlu wly ⟨g0, g1⟩ (by rw [Hlu.out]; omega) hly hvl (by rw [HU.out]; exact Hdn.out.2.1) (by rw [HU.out]; exact Hdn.out.2.2)
            have hcx := arr_app_cell ax3 (j := i + k3) (by omega)
            have hfx := ax3.free (i + k3)
            rw [tp.1, Hu2.out] at hcx
            replace tp := tp.2
            rw [Hu2.out] at tp
            obtain ⟨D, hD⟩ : ∃ D, (u2 - cv - bv) % 18446744073709551616 = D := ⟨_, rfl⟩
            rw [hD] at tp
            have D0 : 0 ≤ D := by omega
            have D1 : D < 18446744073709551616 := by omega
            have hD3 : IntKind.u64.wrap (u2 - cv - bv) = D := by rw [IntKind.wrap_u64, ← hD]
            have hD2 : IntKind.u64.wrap (IntKind.u64.wrap (u2 - cv) - bv) = D := by rw [IntKind.wrap_u64, IntKind.wrap_u64, ← hD]; omega
            have ax5 := arr_app_set ax3 (j := i + k3) (by omega) (D % 4294967296)
            have ay5 : Arr (wr.setCell ⟨xb, i + k3, none⟩ (.int .u32 (D % 4294967296))) yb ty .u32 ly := ay3.other hxy _
            have aq5 : Arr (wr.setCell ⟨xb, i + k3, none⟩ (.int .u32 (D % 4294967296))) qb 66 .u32 lq := aq3.other (Ne.symm hxq) _
            have hB5 : Below w.heap.size w (wr.setCell ⟨xb, i + k3, none⟩ (.int .u32 (D % 4294967296))) := hB3.setCell (p := ⟨xb, i + k3, none⟩) hxw _
            have Hlk := Lib.hid hlk
            clear htk hbv hlk wlu
            rcases tp with ⟨hd0, ro⟩ | ⟨hd1, rb⟩
            · have hDs : D % 4294967296 = D := by omega
              rw [hDs] at ax5 ay5 aq5 hB5 ro
              generalize lk.set (i + k3) D = lk5 at ax5 ro
              have sp := (Hat.out).step Hlt.out HML.out (by rw [ro.1]; exact Hlu.out) ro.2.1 (by rw [Hi.out]; exact ro.2.2.1) (by rw [Hi.out]; exact ro.2.2.2.1) (by rw [Hi.out]; exact ro.2.2.2.2.1) ro.2.2.2.2.2 (by rw [← hvl]; exact (lseg_bd wly 0 k3 (by omega)).2)
              rw [Hi.out] at sp
              have Sp := Lib.hid sp
              have fq := aq3.free i
              have cq3 := aq3.cell i (by have := Hi.out; have := Hlt.out; have := (Hat.out).2.2.1; omega)
              have hlq := (Hat.out).2.2.1
              have cq := aq5.cell i (by have := Hi.out; have := Hlt.out; omega)
              generalize lq.getD i 0 = qold at cq cq3
              have Hlq := Lib.hid hlq
              clear sp ro hlq
              go_wp2_with fail
              go_roundg (M - (k + 1))
              case measure => have := Hgh.out; have := Hlt.out; omega
              case rel => exact ⟨k + 1, _, _, _, rfl, by have := Hlt.out; omega, by have := Hi.out; omega, rfl, Sp.out, ax5.other hxq _, ay5.other hyq _, aq5.set i _, hB5.setCell (p := ⟨qb, i, none⟩) hqw _⟩
            · generalize lk.set (i + k3) (D % 4294967296) = lk5 at ax5 rb
              obtain ⟨h1, hlk5, wlk5, hrest5, htop5, hrb⟩ := rb
              have Rb : Hid (RoundBack lu lk5 i k3 gf V) := Lib.hid ⟨h1, hlk5, wlk5, hrest5, htop5, hrb⟩
              have Hlk5 := Lib.hid hlk5
              have Hwlk5 := Lib.hid wlk5
              obtain ⟨gm, hgm⟩ : ∃ gm, gf - 1 = gm := ⟨_, rfl⟩
              have gm0 : 0 ≤ gm := by omega
              have gm1 : gm < 4294967296 := by omega
              have gw : IntKind.u64.wrap (gf - 1) = gm := by rw [IntKind.wrap_u64]; omega
              clear hlk5 hrest5 htop5 hrb h1
              go_wp2_with fail
              generalize (wr.setCell ⟨xb, i + k3, none⟩ (.int .u32 (D % 4294967296))) = w8 at ax5 ay5 aq5 hB5 ⊢
              clear hcx hfx ax3 ay3 aq3 hB3 hD hD2 hD3
              go_loopg [19, 24] k3 (fun g4 c kk w4 => ∃ (k4 : Nat) (c4 : Int) (lm : List Int), g4 = k3 - k4 ∧ k4 ≤ k3 ∧ kk = .int .i64 k4 ∧ c = .int .u64 c4 ∧ AddL lk5 ly lm i k4 c4 ∧ Arr w4 xb 66 .u32 (lm ++ List.replicate zx 0) ∧ Arr w4 yb ty .u32 ly ∧ Arr w4 qb 66 .u32 lq ∧ Below w.heap.size w w4)
              case atStart => exact ⟨0, 0, lk5, rfl, Nat.zero_le _, rfl, rfl, ⟨.inl rfl, rfl, Hwlk5.out, fun _ _ => rfl, by simp [lseg_zero]⟩, ax5, ay5, aq5, hB5⟩
              case round =>
                obtain ⟨k4, c4, lm, hg4, hk4, rfl, rfl, had, ax4, ay4, aq4, hB4⟩ := hrel
                have Hg4 := Lib.hid hg4
                clear hg4 ax5 ay5 aq5 hB5
                have hlm := had.2.1
                rw [Hlk5.out, Hlu.out] at hlm
                have hc4 := had.1
                have c40 : 0 ≤ c4 := by omega
                have c41 : c4 ≤ 1 := by omega
                by_cases hlt4' : k4 < k3
                · have st4 := had.step wlk5 wly (by rw [Hlk5.out, Hlu.out]; omega) (by omega)
                  have hrs := had.2.2.2.1 (i + k4) (by omega)
                  have hcx := arr_app_cell ax4 (j := i + k4) (by omega)
                  have hfx := ax4.free (i + k4)
                  have hcy := ay4.cell k4 (by omega)
                  obtain ⟨x0, x1⟩ := wlk5.getD (i + k4)
                  obtain ⟨y0, y1⟩ := wly.getD k4
                  rw [hrs] at hcx
                  obtain ⟨x, hx⟩ : ∃ x, lk5.getD (i + k4) 0 = x := ⟨_, rfl⟩
                  obtain ⟨y, hy⟩ : ∃ y, ly.getD k4 0 = y := ⟨_, rfl⟩
                  rw [hx] at hcx x0 x1 st4
                  rw [hy] at hcy y0 y1 st4
                  obtain ⟨T4, hT4⟩ : ∃ T4, c4 + x + y = T4 := ⟨_, rfl⟩
                  rw [hT4] at st4
                  have T40 : 0 ≤ T4 := by omega
                  have T41 : T4 < 18446744073709551616 := by omega
                  have v1 : IntKind.u64.wrap (c4 + x) = c4 + x := by rw [IntKind.wrap_u64]; omega
                  have v2 : IntKind.u64.wrap (c4 + x + y) = T4 := by rw [IntKind.wrap_u64]; omega
                  have s1 : IntKind.i64.wrap ((i : Int) + (k4 : Int)) = (i : Int) + (k4 : Int) := IntWalk.i64_in _ (by omega)
                  have s2 : (0 : Int) ≤ (i : Int) + (k4 : Int) := by omega
                  have s3 : ((i : Int) + (k4 : Int)).toNat = i + k4 := by omega
                  have s7 : (i : Int) + (k4 : Int) < (L : Int) := by omega
                  have s8 : (k4 : Int) < (k3 : Int) := by omega
                  have St4 := Lib.hid st4
                  have Hlm := Lib.hid hlm
                  have hcx' := fun nq => (ax4.drewN nq).free (i + k4)
                  clear st4 had hc4 hrs hx hy hlm
                  go_wp2_with fail
                  go_quiet (fail)
                  have ax6 := ax4.drewN nq
                  have ay6 := ay4.drewN nq
                  have aq6 := aq4.drewN nq
                  have hB6 : Below w.heap.size w (wr.drewN nq) := below_drewN hB4 nq
                  have hfx6 := ax6.free (i + k4)
                  have hcx6 := arr_app_cell ax6 (j := i + k4) (by rw [Hlm.out]; omega)
                  generalize lm.getD (i + k4) 0 = xx at hcx6
                  clear hcx hcx' hfx hcy ax4 ay4 aq4 hB4 s1 s2 s3 s7 s8 v1 v2
                  generalize wr.drewN nq = w9 at ax6 ay6 aq6 hB6 hfx6 hcx6 ⊢
                  go_wp2_with fail
                  go_roundg (k3 - (k4 + 1))
                  case measure => have := Hg4.out; omega
                  case rel => exact ⟨k4 + 1, _, _, rfl, by omega, by go_num, rfl, St4.out, arr_app_set ax6 (by rw [Hlm.out]; omega) _, ay6.other hxy _, aq6.other (Ne.symm hxq) _, hB6.setCell (p := ⟨xb, i + k4, none⟩) hxw _⟩
                · obtain rfl : k4 = k3 := by omega
                  obtain ⟨tp1, tp2, ro⟩ := had.top Rb.out wly ⟨g0, g1⟩ (by rw [Hlu.out]; omega) hly hvl
                  rw [hgm] at ro
                  have hcx := arr_app_cell ax4 (j := i + k4) (by omega)
                  have hfx := ax4.free (i + k4)
                  rw [tp1] at hcx
                  have ax5 := arr_app_set ax4 (j := i + k4) (by omega) ((4294967295 + c4) % 4294967296)
                  have ay5 : Arr (wr.setCell ⟨xb, i + k4, none⟩ (.int .u32 ((4294967295 + c4) % 4294967296))) yb ty .u32 ly := ay4.other hxy _
                  have aq5 : Arr (wr.setCell ⟨xb, i + k4, none⟩ (.int .u32 ((4294967295 + c4) % 4294967296))) qb 66 .u32 lq := aq4.other (Ne.symm hxq) _
                  have hB5 : Below w.heap.size w (wr.setCell ⟨xb, i + k4, none⟩ (.int .u32 ((4294967295 + c4) % 4294967296))) := hB4.setCell (p := ⟨xb, i + k4, none⟩) hxw _
                  generalize lm.set (i + k4) ((4294967295 + c4) % 4294967296) = lm5 at ax5 ro
                  clear had hc4 hlm tp1 tp2
                  have sp := (Hat.out).step Hlt.out HML.out (by rw [ro.1]; exact Hlu.out) ro.2.1 (by rw [Hi.out]; exact ro.2.2.1) (by rw [Hi.out]; exact ro.2.2.2.1) (by rw [Hi.out]; exact ro.2.2.2.2.1) ro.2.2.2.2.2 (by rw [← hvl]; exact (lseg_bd wly 0 k4 (by omega)).2)
                  rw [Hi.out] at sp
                  have Sp := Lib.hid sp
                  have fq := aq5.free i
                  have hlq := (Hat.out).2.2.1
                  have cq := aq5.cell i (by have := Hi.out; have := Hlt.out; omega)
                  generalize lq.getD i 0 = qold at cq
                  have Hlq := Lib.hid hlq
                  clear sp ro hlq
                  go_wp2_with fail
                  go_roundg (M - (k + 1))
                  case measure => have := Hgh.out; have := Hlt.out; omega
                  case rel => exact ⟨k + 1, _, _, _, rfl, by have := Hlt.out; omega, by have := Hi.out; omega, rfl, Sp.out, ax5.other hxq _, ay5.other hyq _, aq5.set i _, hB5.setCell (p := ⟨qb, i, none⟩) hqw _⟩
    · obtain rfl : k = M := by omega
      have hzn : z < 0 := by omega
      have hle := ldivs_end (x := a) (y := b) (n := yn) (xl := L - 1) (M := k) (S := S) (lu := lu) (lq := lq) (by rw [HX.out, HV.out, show L - 1 + 1 = L by have := HML.out; omega]; exact hat) (by have := HML.out; omega)
      have hrest := ldivs_rest hat HML.out
      have hlu := hat.1
      have hlq := hat.2.2.1
      have wlu := hat.2.1
      have wlq := hat.2.2.2.1
      have hRb := lseg_bd wlu 0 yn (by have := HML.out; omega)
      have trq := ltrim_any qb 66 k k lq wr aq (Nat.le_refl _) (by omega) (by omega)
      have q1 := trimLen_le lq k
      have q2 := trimLen_last lq k
      have q3 := lval_trim lq k (by omega)
      rw [← lseg_all lq k, ← hle.1] at q3
      generalize trimLen lq k = mq at trq q1 q2 q3
      have nq1 := isNum_arr aq (len := mq) (cap := k) (by omega) (by omega) wlq q2
      rw [q3] at nq1
      have trx := ltrim_any xb 66 L (L + zx) (lu ++ List.replicate zx 0) wr ax (by omega) (by rw [List.length_append, List.length_replicate]; omega) (by omega)
      have x1 := trimLen_le (lu ++ List.replicate zx 0) L
      have x2 := trimLen_last (lu ++ List.replicate zx 0) L
      have x3 := lval_trim (lu ++ List.replicate zx 0) L (by rw [List.length_append]; omega)
      have e0 : (lu ++ List.replicate zx 0).take L = lu := by rw [← hlu]; exact List.take_left
      rw [e0, hrest] at x3
      generalize trimLen (lu ++ List.replicate zx 0) L = mx at trx x1 x2 x3
      have nx1 := isNum_arr ax (len := mx) (cap := L + zx) (by rw [List.length_append]; omega) (by omega) (wlu.append (Limbs.replicate zx)) x2
      rw [x3] at nx1
      have sh := natShift_back _ _ S (-(S : Int)) rfl (by omega) wr (K := yn) nx1 hRb.2 (by omega)
      rw [← hle.2] at sh
      have Nq := Lib.hid nq1
      clear hat hle hrest hlu hlq wlu wlq hRb q2 q3 x2 x3 e0 nq1 nx1 hz ax ay aq
      go_wp2_with fail
      refine trq.mono ?_
      rintro e W1 ⟨rfl, rfl⟩
      go_wp2_with fail
      refine trx.mono ?_
      rintro e W1 ⟨rfl, rfl⟩
      go_wp2_with fail
      refine sh.mono ?_
      rintro e W1 ⟨rr, rfl, hrr, hbr⟩
      obtain ⟨pr, lr, cr, rfl⟩ := hrr.shape
      go_wp2_with fail
      go_ret2
      exact ⟨_, _, rfl, (Nq.out).below hbr, hrr, hB.trans (hbr.mono hB.size)⟩
end Go.Proofs.YtogpephnkkofjaaGreatDoor
