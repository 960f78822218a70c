/- Add -/
import Derived.Test.YtgccgacpifebbaaGreatDoorZb05
import Derived.Test.YtgccgacpifebbaaGreatDoorZb02
namespace Go.Proofs.YtgccgacpifebbaaGreatDoor
open Go.RowKit
set_option linter.unusedVariables false
theorem pair_any (hi lo : Int) (hh : hi = 0 ∨ hi = 1) (hl : Word lo) (w : World) :
    Calls Tryz.prog 77 #[.int .u64 hi,.int .u64 lo] w (RetNat (lo + 18446744073709551616 * hi) w) := by
  rcases hh with rfl | rfl
  · refine (pair_zero lo w).mono fun e w' ⟨he,hb⟩ => ⟨_,he,?_,hb⟩
    simpa using IsNat.word (w := w') hl
  · refine (pair_two 1 lo (by decide) w).mono fun e w' ⟨he,hb,ha⟩ => ⟨_,he,.inr ⟨_,_,2,2,_,rfl,ha,by decide,by decide,by simp,by simp,?_,by simp,by simp [val]⟩,hb⟩
    exact Words.cons hl (Words.cons ⟨by decide,by decide⟩ Words.nil)
theorem add_words (n m : Int) (hn : Word n) (hm : Word m) (w : World) :
    Calls Tryz.prog 53 #[.agg #[.int .u64 n,.slice none 0 0],.agg #[.int .u64 m,.slice none 0 0]] w (RetNat (n + m) w) := by
  have e1 := eqnil
  have he := add_eq n m 0
  have hh := addHi_bit hn hm (c := 0) (.inl rfl)
  have hl := addLo_word n m 0
  have hs := add64' n m 0 hn hm (.inl rfl)
  generalize addLo n m 0 = lo at he hl hs
  generalize addHi n m 0 = hi at he hh hs
  have He := Lib.hid he
  have Hh := Lib.hid hh
  clear he hh
  go_enter Tryz.func53,Tryz.ntmps53
  go_wp2_with (go_at_call 77; refine (pair_any _ _ Hh.out hl _).mono ?_; rintro e w' ⟨v,rfl,hv,hb⟩; obtain ⟨xa,xp,xl,xc,rfl⟩ := hv.shape; obtain ⟨hc,hf⟩ := bcell hb)
  rw [show n + m = lo + 18446744073709551616 * hi by have := He.out; omega]
  exact bodyPost_nat Tryz.results53 rfl rfl (by go_grown) hb hv (heap_new _ _ _ (by simp)) (by omega)
theorem splice_zero (l : List Int) (n : Nat) (h : n ≤ l.length) : splice (List.replicate (n + 1) (0 : Int)) 0 ((l.drop 0).take n) = l.take n ++ [0] := by
  have hl : (l.take n).length = n := by simp; omega
  unfold splice
  rw [List.take_zero,List.nil_append,List.drop_zero,hl,Nat.zero_add,List.replicate_succ',List.drop_append_of_le_length (by simp)]
  simp
theorem seg_top (l : List Int) (n : Nat) (h : n ≤ l.length) : seg (l.take n ++ [0]) 0 (n + 1) = val (l.take n) := by
  have hl : (l.take n).length = n := by simp; omega
  rw [seg_all,List.take_of_length_le (by simp; omega),val_append]
  simp [val]
/-- No carry is left where there is a word more than the sum wants. -/
theorem AddAt.sum {w wr : World} {zb : Nat} {tz : TypeId} {l1 : List Int} {n1 : Nat} {X c : Int} (h : AddAt w wr zb tz (l1.take n1 ++ [0]) 0 (n1 + 1) X c) (h1 : n1 ≤ l1.length) (hw : Words l1) (hX0 : 0 ≤ X) (hX : X < pw n1) :
    ∃ lk,Arr wr zb tz .u64 lk ∧ lk.length = n1 + 1 ∧ Words lk ∧ val (lk.take (n1 + 1)) = val (l1.take n1) + X ∧ w.grownBy wr (some zb) := by
  obtain ⟨hc,lk,ha,hlen,hwk,hrest,hval,hg⟩ := h
  have hl : lk.length = n1 + 1 := by rw [hlen]; simp; omega
  refine ⟨lk,ha,hl,hwk,?_,hg⟩
  have hb := seg_bd hwk 0 (n1 + 1) (by omega)
  have hb1 := seg_bd hw 0 n1 (by omega)
  rw [seg_top _ _ h1] at hval
  rw [seg_all] at hval hb hb1
  have hp := pw_pos n1
  rcases hc with rfl | rfl
  · omega
  · simp only [pw] at hval hb
    omega
theorem pw_big {n : Nat} (h : 2 ≤ n) : 18446744073709551616 ≤ pw n := by
  obtain ⟨k,rfl⟩ : ∃ k,n = k + 1 := ⟨n - 1,by omega⟩
  have := pw_pos k
  simp only [pw]; omega
set_option maxRecDepth 100000 in
set_option maxHeartbeats 1000000 in
theorem add_mm (b1 t1 n1 c1 : Nat) (l1 : List Int) (b2 t2 n2 c2 : Nat) (l2 : List Int) (w : World) (ha1 : Arr w b1 t1 .u64 l1) (ha2 : Arr w b2 t2 .u64 l2) (h1 : n1 ≤ l1.length) (hp : 2 ≤ n1) (h2 : n2 ≤ l2.length) (hle : n2 ≤ n1) (hw2 : Words l2) (hX : val (l2.take n2) < pw n1) (hm : n1 ≤ 4294967296) (hw1 : Words l1) :
    Calls Tryz.prog 53 #[.agg #[.int .u64 0,.slice (some ⟨b1,0,none⟩) n1 c1],.agg #[.int .u64 0,.slice (some ⟨b2,0,none⟩) n2 c2]] w (RetNat (val (l1.take n1) + val (l2.take n2)) w) := by
  have e1 := eqnil
  have hlt : ¬ n1 < n2 := by omega
  have k2 := ha2.lt
  have hX0 := (val_bd (hw2.take n2)).1
  have hmk := make64 (n1 + 1) (n1 + 1) (by omega) (by omega)
  have k1 := ha1.lt
  go_enter Tryz.func53,Tryz.ntmps53
  go_wp2_with (with_reducible refine wpList_copy_arr rfl (.tmp 42) (.tmp 44) 24 24 rfl 23 Tryz.underlying24 (by kernel_rfl) (w.heap.size + 1 + 1 + 1 + 1) 0 (n1 + 1) (n1 + 1) b1 0 n1 c1 rfl rfl 23 t1 .u64 (List.replicate (n1 + 1) 0) l1 ?c1 ?c2 (by omega) (by omega) (by simp) ?c3)
  case c1 => exact Arr.zeros _ _ _ _ _ (by simp)
  case c2 => exact ((((ha1.alloc _).alloc _).alloc _).alloc _).alloc _
  case c3 =>
  intro w1 hz hg1
  have hz1 : Arr w1 (w.heap.size + 1 + 1 + 1 + 1) 23 .u64 (l1.take n1 ++ [0]) := by rw [← splice_zero l1 n1 h1]; exact hz.out
  have hB1 : Below (w.heap.size + 1 + 1 + 1) (((w.alloc (.cells #[.int .u64 0,.slice (some ⟨b1,0,none⟩) n1 c1] 26)).alloc (.cells #[.int .u64 0,.slice (some ⟨b2,0,none⟩) n2 c2] 26)).alloc (.cells #[.int .u64 0,.slice none 0 0] 26)) w1 := Below.ofGrown (((Below.refl _ _).alloc (by simp) _).alloc (by simp) _) hg1 (by simp) (by omega)
  have ha2' : Arr w1 b2 t2 .u64 l2 := (((ha2.alloc _).alloc _).alloc _).below hB1 (by omega)
  clear hz hg1 hmk
  obtain ⟨hc1,hf1⟩ := bcell (W := ((w.alloc _).alloc _).alloc _) (by simpa using hB1)
  go_wp2_with (go_at_call 72; refine (words_many b2 n2 c2 _ _).mono ?_; rintro e w2 ⟨rfl,hb2⟩)
  have hz2 := hz1.below hb2 hz1.lt
  have hx2 := ha2'.below hb2 ha2'.lt
  have hB2 := hB1.trans (hb2.mono (by have := hz1.lt; omega))
  have hs2 := hb2.size
  have hlen : (l1.take n1 ++ [0]).length = n1 + 1 := by simp; omega
  have ww : Words (l1.take n1 ++ [0]) := (hw1.take n1).append (Words.cons ⟨by decide,by decide⟩ Words.nil)
  refine (addTo_any (w.heap.size + 1 + 1 + 1 + 1) 0 (n1 + 1) (n1 + 1) b2 0 n2 c2 23 t2 (l1.take n1 ++ [0]) l2 w2 hz2 hx2 (by omega) (by omega) (by omega) (by omega) (by omega) ww hw2).mono ?_
  rintro e w3 ⟨rfl,c,hadd⟩
  rw [seg_all] at hadd
  obtain ⟨lk,hak,hlk,hwk,hval,hg3⟩ := hadd.sum h1 hw1 hX0 hX
  have hB3 := Below.ofGrown hB2 hg3 (by have := hz2.lt; omega) (by omega)
  have Hval := Lib.hid hval
  have Hlk := Lib.hid hlk
  clear hval hlk hadd hlen hc1 hf1
  obtain ⟨hc3,hf3⟩ := bcell (W := ((w.alloc _).alloc _).alloc _) (by simpa using hB3)
  go_wp2_with (go_at_call 79; refine (made_any (w.heap.size + 1 + 1 + 1 + 1) 23 (n1 + 1) (n1 + 1) lk _ hak (Nat.le_refl _) (by have := Hlk.out; omega) (by have := Hlk.out; omega) hwk).mono ?_; rintro e w4 ⟨v,rfl,hv,hb4⟩; obtain ⟨xa,xp,xl,xc,rfl⟩ := hv.shape; clear hc3 hf3; have hB4 := hB3.trans (hb4.mono (by have := hak.lt; omega)); obtain ⟨hc4,hf4⟩ := bcell (W := ((w.alloc _).alloc _).alloc _) (by simpa using hB4))
  rw [← Hval.out]
  exact bodyPost_nat Tryz.results53 rfl rfl (W := (((w.alloc (.cells #[.int .u64 0,.slice (some ⟨b1,0,none⟩) n1 c1] 26)).alloc (.cells #[.int .u64 0,.slice (some ⟨b2,0,none⟩) n2 c2] 26)).alloc (.cells #[.int .u64 0,.slice none 0 0] 26))) (by go_grown) (by simpa using hB4) hv (heap_new _ _ _ (by simp)) (by omega)
set_option maxRecDepth 100000 in
set_option maxHeartbeats 1000000 in
theorem add_mm' (b1 t1 n1 c1 : Nat) (l1 : List Int) (b2 t2 n2 c2 : Nat) (l2 : List Int) (w : World) (ha1 : Arr w b1 t1 .u64 l1) (ha2 : Arr w b2 t2 .u64 l2) (h1 : n1 ≤ l1.length) (hp : 2 ≤ n1) (h2 : n2 ≤ l2.length) (hle : n2 < n1) (hw2 : Words l2) (hX : val (l2.take n2) < pw n1) (hm : n1 ≤ 4294967296) (hw1 : Words l1) :
    Calls Tryz.prog 53 #[.agg #[.int .u64 0,.slice (some ⟨b2,0,none⟩) n2 c2],.agg #[.int .u64 0,.slice (some ⟨b1,0,none⟩) n1 c1]] w (RetNat (val (l1.take n1) + val (l2.take n2)) w) := by
  have e1 := eqnil
  have hlt : n2 < n1 := hle
  have k2 := ha2.lt
  have hX0 := (val_bd (hw2.take n2)).1
  have hmk := make64 (n1 + 1) (n1 + 1) (by omega) (by omega)
  have k1 := ha1.lt
  go_enter Tryz.func53,Tryz.ntmps53
  go_wp2_with (with_reducible refine wpList_copy_arr rfl (.tmp 42) (.tmp 44) 24 24 rfl 23 Tryz.underlying24 (by kernel_rfl) (w.heap.size + 1 + 1 + 1 + 1) 0 (n1 + 1) (n1 + 1) b1 0 n1 c1 rfl rfl 23 t1 .u64 (List.replicate (n1 + 1) 0) l1 ?c1 ?c2 (by omega) (by omega) (by simp) ?c3)
  case c1 => exact Arr.zeros _ _ _ _ _ (by simp)
  case c2 => exact ((((ha1.alloc _).alloc _).alloc _).alloc _).alloc _
  case c3 =>
  intro w1 hz hg1
  have hz1 : Arr w1 (w.heap.size + 1 + 1 + 1 + 1) 23 .u64 (l1.take n1 ++ [0]) := by rw [← splice_zero l1 n1 h1]; exact hz.out
  have hB1 : Below (w.heap.size + 1 + 1 + 1) (((w.alloc (.cells #[.int .u64 0,.slice (some ⟨b1,0,none⟩) n1 c1] 26)).alloc (.cells #[.int .u64 0,.slice (some ⟨b2,0,none⟩) n2 c2] 26)).alloc (.cells #[.int .u64 0,.slice none 0 0] 26)) w1 := Below.ofGrown (((Below.refl _ _).alloc (by simp) _).alloc (by simp) _) hg1 (by simp) (by omega)
  have ha2' : Arr w1 b2 t2 .u64 l2 := (((ha2.alloc _).alloc _).alloc _).below hB1 (by omega)
  clear hz hg1 hmk
  obtain ⟨hc1,hf1⟩ := bcell (W := ((w.alloc _).alloc _).alloc _) (by simpa using hB1)
  go_wp2_with (go_at_call 72; refine (words_many b2 n2 c2 _ _).mono ?_; rintro e w2 ⟨rfl,hb2⟩)
  have hz2 := hz1.below hb2 hz1.lt
  have hx2 := ha2'.below hb2 ha2'.lt
  have hB2 := hB1.trans (hb2.mono (by have := hz1.lt; omega))
  have hs2 := hb2.size
  have hlen : (l1.take n1 ++ [0]).length = n1 + 1 := by simp; omega
  have ww : Words (l1.take n1 ++ [0]) := (hw1.take n1).append (Words.cons ⟨by decide,by decide⟩ Words.nil)
  refine (addTo_any (w.heap.size + 1 + 1 + 1 + 1) 0 (n1 + 1) (n1 + 1) b2 0 n2 c2 23 t2 (l1.take n1 ++ [0]) l2 w2 hz2 hx2 (by omega) (by omega) (by omega) (by omega) (by omega) ww hw2).mono ?_
  rintro e w3 ⟨rfl,c,hadd⟩
  rw [seg_all] at hadd
  obtain ⟨lk,hak,hlk,hwk,hval,hg3⟩ := hadd.sum h1 hw1 hX0 hX
  have hB3 := Below.ofGrown hB2 hg3 (by have := hz2.lt; omega) (by omega)
  have Hval := Lib.hid hval
  have Hlk := Lib.hid hlk
  clear hval hlk hadd hlen hc1 hf1
  obtain ⟨hc3,hf3⟩ := bcell (W := ((w.alloc _).alloc _).alloc _) (by simpa using hB3)
  go_wp2_with (go_at_call 79; refine (made_any (w.heap.size + 1 + 1 + 1 + 1) 23 (n1 + 1) (n1 + 1) lk _ hak (Nat.le_refl _) (by have := Hlk.out; omega) (by have := Hlk.out; omega) hwk).mono ?_; rintro e w4 ⟨v,rfl,hv,hb4⟩; obtain ⟨xa,xp,xl,xc,rfl⟩ := hv.shape; clear hc3 hf3; have hB4 := hB3.trans (hb4.mono (by have := hak.lt; omega)); obtain ⟨hc4,hf4⟩ := bcell (W := ((w.alloc _).alloc _).alloc _) (by simpa using hB4))
  rw [← Hval.out]
  exact bodyPost_nat Tryz.results53 rfl rfl (W := (((w.alloc (.cells #[.int .u64 0,.slice (some ⟨b1,0,none⟩) n1 c1] 26)).alloc (.cells #[.int .u64 0,.slice (some ⟨b2,0,none⟩) n2 c2] 26)).alloc (.cells #[.int .u64 0,.slice none 0 0] 26))) (by go_grown) (by simpa using hB4) hv (heap_new _ _ _ (by simp)) (by omega)
set_option maxRecDepth 100000 in
set_option maxHeartbeats 1000000 in
theorem add_mw (b1 t1 n1 c1 : Nat) (l1 : List Int) (m : Int) (hmw : Word m) (w : World) (ha1 : Arr w b1 t1 .u64 l1) (h1 : n1 ≤ l1.length) (hp : 2 ≤ n1) (hm : n1 ≤ 4294967296) (hw1 : Words l1) :
    Calls Tryz.prog 53 #[.agg #[.int .u64 0,.slice (some ⟨b1,0,none⟩) n1 c1],.agg #[.int .u64 m,.slice none 0 0]] w (RetNat (val (l1.take n1) + m) w) := by
  have e1 := eqnil
  have hlt : ¬ n1 < 0 := by omega
  have hmk := make64 (n1 + 1) (n1 + 1) (by omega) (by omega)
  have k1 := ha1.lt
  go_enter Tryz.func53,Tryz.ntmps53
  go_wp2_with (with_reducible refine wpList_copy_arr rfl (.tmp 42) (.tmp 44) 24 24 rfl 23 Tryz.underlying24 (by kernel_rfl) (w.heap.size + 1 + 1 + 1 + 1) 0 (n1 + 1) (n1 + 1) b1 0 n1 c1 rfl rfl 23 t1 .u64 (List.replicate (n1 + 1) 0) l1 ?c1 ?c2 (by omega) (by omega) (by simp) ?c3)
  case c1 => exact Arr.zeros _ _ _ _ _ (by simp)
  case c2 => exact ((((ha1.alloc _).alloc _).alloc _).alloc _).alloc _
  case c3 =>
  intro w1 hz hg1
  have hz1 : Arr w1 (w.heap.size + 1 + 1 + 1 + 1) 23 .u64 (l1.take n1 ++ [0]) := by rw [← splice_zero l1 n1 h1]; exact hz.out
  have hB1 : Below (w.heap.size + 1 + 1 + 1) (((w.alloc (.cells #[.int .u64 0,.slice (some ⟨b1,0,none⟩) n1 c1] 26)).alloc (.cells #[.int .u64 m,.slice none 0 0] 26)).alloc (.cells #[.int .u64 0,.slice none 0 0] 26)) w1 := Below.ofGrown (((Below.refl _ _).alloc (by simp) _).alloc (by simp) _) hg1 (by simp) (by omega)
  have hr1 : Arr w1 (w.heap.size + 1 + 1 + 1) 121 .u64 [0] := (Arr.alloc (Arr.new _ _ _ [0] _ (by simp)) _).grown hg1 (by simp)
  clear hz hg1 hmk
  obtain ⟨hc1,hf1⟩ := bcell (W := ((w.alloc _).alloc _).alloc _) (by simpa using hB1)
  go_wp2_with (go_at_call 72; refine (words_word m hmw (w.heap.size + 1 + 1 + 1) _ 0 _ hr1).mono ?_; rintro e w2 ⟨rfl,hx2,hg2⟩)
  have hz2 := hz1.grown hg2 (by simp)
  have hB2 := Below.ofGrown hB1 hg2 (by have := hz1.lt; omega) (by omega)
  have hs2 := hg2.size
  have htl := trimLen_le [m] 1
  have hlen : (l1.take n1 ++ [0]).length = n1 + 1 := by simp; omega
  have ww : Words (l1.take n1 ++ [0]) := (hw1.take n1).append (Words.cons ⟨by decide,by decide⟩ Words.nil)
  refine (addTo_any (w.heap.size + 1 + 1 + 1 + 1) 0 (n1 + 1) (n1 + 1) (w.heap.size + 1 + 1 + 1) 0 (trimLen [m] 1) 1 23 _ (l1.take n1 ++ [0]) [m] w2 hz2 hx2 (by omega) (by omega) (by simpa using htl) (by omega) (by omega) ww (Words.cons hmw Words.nil)).mono ?_
  rintro e w3 ⟨rfl,c,hadd⟩
  rw [seg_all,val_trim [m] 1 (by simp)] at hadd
  have hvm : val ([m].take 1) = m := by simp [val]
  rw [hvm] at hadd
  have hmp : m < pw n1 := by have := pw_big hp; unfold Word at hmw; omega
  obtain ⟨lk,hak,hlk,hwk,hval,hg3⟩ := hadd.sum h1 hw1 hmw.1 hmp
  have hB3 := Below.ofGrown hB2 hg3 (by have := hz2.lt; omega) (by omega)
  have Hval := Lib.hid hval
  have Hlk := Lib.hid hlk
  clear hval hlk hadd hlen hc1 hf1
  obtain ⟨hc3,hf3⟩ := bcell (W := ((w.alloc _).alloc _).alloc _) (by simpa using hB3)
  go_wp2_with (go_at_call 79; refine (made_any (w.heap.size + 1 + 1 + 1 + 1) 23 (n1 + 1) (n1 + 1) lk _ hak (Nat.le_refl _) (by have := Hlk.out; omega) (by have := Hlk.out; omega) hwk).mono ?_; rintro e w4 ⟨v,rfl,hv,hb4⟩; obtain ⟨xa,xp,xl,xc,rfl⟩ := hv.shape; clear hc3 hf3; have hB4 := hB3.trans (hb4.mono (by have := hak.lt; omega)); obtain ⟨hc4,hf4⟩ := bcell (W := ((w.alloc _).alloc _).alloc _) (by simpa using hB4))
  rw [← Hval.out]
  exact bodyPost_nat Tryz.results53 rfl rfl (W := (((w.alloc (.cells #[.int .u64 0,.slice (some ⟨b1,0,none⟩) n1 c1] 26)).alloc (.cells #[.int .u64 m,.slice none 0 0] 26)).alloc (.cells #[.int .u64 0,.slice none 0 0] 26))) (by go_grown) (by simpa using hB4) hv (heap_new _ _ _ (by simp)) (by omega)
set_option maxRecDepth 100000 in
set_option maxHeartbeats 1000000 in
theorem add_wm (b1 t1 n1 c1 : Nat) (l1 : List Int) (m : Int) (hmw : Word m) (w : World) (ha1 : Arr w b1 t1 .u64 l1) (h1 : n1 ≤ l1.length) (hp : 2 ≤ n1) (hm : n1 ≤ 4294967296) (hw1 : Words l1) :
    Calls Tryz.prog 53 #[.agg #[.int .u64 m,.slice none 0 0],.agg #[.int .u64 0,.slice (some ⟨b1,0,none⟩) n1 c1]] w (RetNat (val (l1.take n1) + m) w) := by
  have e1 := eqnil
  have hlt : (0 : Int) < n1 := by omega
  have hlt2 : 0 < n1 := by omega
  have hmk := make64 (n1 + 1) (n1 + 1) (by omega) (by omega)
  have k1 := ha1.lt
  go_enter Tryz.func53,Tryz.ntmps53
  go_wp2_with (with_reducible refine wpList_copy_arr rfl (.tmp 42) (.tmp 44) 24 24 rfl 23 Tryz.underlying24 (by kernel_rfl) (w.heap.size + 1 + 1 + 1 + 1) 0 (n1 + 1) (n1 + 1) b1 0 n1 c1 rfl rfl 23 t1 .u64 (List.replicate (n1 + 1) 0) l1 ?c1 ?c2 (by omega) (by omega) (by simp) ?c3)
  case c1 => exact Arr.zeros _ _ _ _ _ (by simp)
  case c2 => exact ((((ha1.alloc _).alloc _).alloc _).alloc _).alloc _
  case c3 =>
  intro w1 hz hg1
  have hz1 : Arr w1 (w.heap.size + 1 + 1 + 1 + 1) 23 .u64 (l1.take n1 ++ [0]) := by rw [← splice_zero l1 n1 h1]; exact hz.out
  have hB1 : Below (w.heap.size + 1 + 1 + 1) (((w.alloc (.cells #[.int .u64 0,.slice (some ⟨b1,0,none⟩) n1 c1] 26)).alloc (.cells #[.int .u64 m,.slice none 0 0] 26)).alloc (.cells #[.int .u64 0,.slice none 0 0] 26)) w1 := Below.ofGrown (((Below.refl _ _).alloc (by simp) _).alloc (by simp) _) hg1 (by simp) (by omega)
  have hr1 : Arr w1 (w.heap.size + 1 + 1 + 1) 121 .u64 [0] := (Arr.alloc (Arr.new _ _ _ [0] _ (by simp)) _).grown hg1 (by simp)
  clear hz hg1 hmk
  obtain ⟨hc1,hf1⟩ := bcell (W := ((w.alloc _).alloc _).alloc _) (by simpa using hB1)
  go_wp2_with (go_at_call 72; refine (words_word m hmw (w.heap.size + 1 + 1 + 1) _ 0 _ hr1).mono ?_; rintro e w2 ⟨rfl,hx2,hg2⟩)
  have hz2 := hz1.grown hg2 (by simp)
  have hB2 := Below.ofGrown hB1 hg2 (by have := hz1.lt; omega) (by omega)
  have hs2 := hg2.size
  have htl := trimLen_le [m] 1
  have hlen : (l1.take n1 ++ [0]).length = n1 + 1 := by simp; omega
  have ww : Words (l1.take n1 ++ [0]) := (hw1.take n1).append (Words.cons ⟨by decide,by decide⟩ Words.nil)
  refine (addTo_any (w.heap.size + 1 + 1 + 1 + 1) 0 (n1 + 1) (n1 + 1) (w.heap.size + 1 + 1 + 1) 0 (trimLen [m] 1) 1 23 _ (l1.take n1 ++ [0]) [m] w2 hz2 hx2 (by omega) (by omega) (by simpa using htl) (by omega) (by omega) ww (Words.cons hmw Words.nil)).mono ?_
  rintro e w3 ⟨rfl,c,hadd⟩
  rw [seg_all,val_trim [m] 1 (by simp)] at hadd
  have hvm : val ([m].take 1) = m := by simp [val]
  rw [hvm] at hadd
  have hmp : m < pw n1 := by have := pw_big hp; unfold Word at hmw; omega
  obtain ⟨lk,hak,hlk,hwk,hval,hg3⟩ := hadd.sum h1 hw1 hmw.1 hmp
  have hB3 := Below.ofGrown hB2 hg3 (by have := hz2.lt; omega) (by omega)
  have Hval := Lib.hid hval
  have Hlk := Lib.hid hlk
  clear hval hlk hadd hlen hc1 hf1
  obtain ⟨hc3,hf3⟩ := bcell (W := ((w.alloc _).alloc _).alloc _) (by simpa using hB3)
  go_wp2_with (go_at_call 79; refine (made_any (w.heap.size + 1 + 1 + 1 + 1) 23 (n1 + 1) (n1 + 1) lk _ hak (Nat.le_refl _) (by have := Hlk.out; omega) (by have := Hlk.out; omega) hwk).mono ?_; rintro e w4 ⟨v,rfl,hv,hb4⟩; obtain ⟨xa,xp,xl,xc,rfl⟩ := hv.shape; clear hc3 hf3; have hB4 := hB3.trans (hb4.mono (by have := hak.lt; omega)); obtain ⟨hc4,hf4⟩ := bcell (W := ((w.alloc _).alloc _).alloc _) (by simpa using hB4))
  rw [← Hval.out]
  exact bodyPost_nat Tryz.results53 rfl rfl (W := (((w.alloc (.cells #[.int .u64 0,.slice (some ⟨b1,0,none⟩) n1 c1] 26)).alloc (.cells #[.int .u64 m,.slice none 0 0] 26)).alloc (.cells #[.int .u64 0,.slice none 0 0] 26))) (by go_grown) (by simpa using hB4) hv (heap_new _ _ _ (by simp)) (by omega)
theorem pw_mono {a b : Nat} (h : a ≤ b) : pw a ≤ pw b := by
  obtain ⟨k,rfl⟩ : ∃ k,b = a + k := ⟨b - a,by omega⟩
  rw [pw_add]
  have h1 := pw_pos a
  have h2 := pw_pos k
  have : pw a * 1 ≤ pw a * pw k := Int.mul_le_mul_of_nonneg_left (by omega) (by omega)
  omega
/-- A number of len words whose last is not 0 is not below 2^64 to the len - 1. -/
theorem val_low {l : List Int} {len : Nat} (hw : Words l) (hp : 1 ≤ len) (hl : len ≤ l.length) (h : l.getD (len - 1) 0 ≠ 0) : pw (len - 1) ≤ val (l.take len) := by
  obtain ⟨k,rfl⟩ : ∃ k,len = k + 1 := ⟨len - 1,by omega⟩
  rw [Nat.add_sub_cancel] at h ⊢
  rw [val_take_succ (by omega)]
  have h1 := (val_bd (hw.take k)).1
  have h2 := hw.getD k
  have h3 := pw_pos k
  generalize l.getD k 0 = x at h h2
  have : pw k * 1 ≤ pw k * x := Int.mul_le_mul_of_nonneg_left (by unfold Word at h2; omega) (by omega)
  omega
theorem len_le {l : List Int} {len K : Nat} (hw : Words l) (hp : 1 ≤ len) (hl : len ≤ l.length) (h : l.getD (len - 1) 0 ≠ 0) (hK : val (l.take len) < pw K) : len ≤ K := by
  have h1 := val_low hw hp hl h
  by_cases hc : len ≤ K
  · exact hc
  · have := pw_mono (a := K) (b := len - 1) (by omega)
    omega
theorem add_any (K : Nat) (hK : K ≤ 4294967296) (v1 v2 : Value) (n m : Int) (w : World) (h1 : IsNat w v1 n) (h2 : IsNat w v2 m) (hn : n < pw K) (hm : m < pw K) :
    Calls Tryz.prog 53 #[v1,v2] w (RetNat (n + m) w) := by
  rcases h1 with ⟨wn,rfl⟩ | ⟨b1,t1,n1,c1,l1,rfl,ha1,hp1,hc1,hl1,hb1,hw1,hz1,rfl⟩
  · rcases h2 with ⟨wm,rfl⟩ | ⟨b2,t2,n2,c2,l2,rfl,ha2,hp2,hc2,hl2,hb2,hw2,hz2,rfl⟩
    · exact add_words n m wn wm w
    · rw [Int.add_comm]
      exact add_wm b2 t2 n2 c2 l2 n wn w ha2 (by omega) hp2 (by have := len_le hw2 (by omega) (by omega) hz2 hm; omega) hw2
  · have L1 := len_le hw1 (by omega) (by omega) hz1 hn
    rcases h2 with ⟨wm,rfl⟩ | ⟨b2,t2,n2,c2,l2,rfl,ha2,hp2,hc2,hl2,hb2,hw2,hz2,rfl⟩
    · exact add_mw b1 t1 n1 c1 l1 m wm w ha1 (by omega) hp1 (by omega) hw1
    · have L2 := len_le hw2 (by omega) (by omega) hz2 hm
      have B1 := (val_bd (hw1.take n1)).2
      have B2 := (val_bd (hw2.take n2)).2
      rw [List.length_take,Nat.min_eq_left (by omega)] at B1 B2
      by_cases hle : n2 ≤ n1
      · exact add_mm b1 t1 n1 c1 l1 b2 t2 n2 c2 l2 w ha1 ha2 (by omega) hp1 (by omega) hle hw2 (by have := pw_mono hle; omega) (by omega) hw1
      · rw [Int.add_comm]
        exact add_mm' b2 t2 n2 c2 l2 b1 t1 n1 c1 l1 w ha2 ha1 (by omega) hp2 (by omega) (by omega) hw1 (by have := pw_mono (a := n1) (b := n2) (by omega); omega) (by omega) hw2
end Go.Proofs.YtgccgacpifebbaaGreatDoor
