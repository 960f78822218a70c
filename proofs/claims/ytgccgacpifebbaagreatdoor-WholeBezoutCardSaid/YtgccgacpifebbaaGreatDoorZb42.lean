/- FreshA -/
import Derived.Test.YtgccgacpifebbaaGreatDoorZb06
import Derived.Test.YtgccgacpifebbaaGreatDoorZb08
namespace Go.Proofs.YtgccgacpifebbaaGreatDoor
open Go.RowKit
set_option linter.unusedVariables false
/-- The words of v, if it has a row, lie in a block from B on. -/
def New (B : Nat) (v : Value) : Prop := ∀ x b o e l c,v = .agg #[.int .u64 x,.slice (some ⟨b,o,e⟩) l c] → B ≤ b
theorem New.mono {B C : Nat} {v : Value} (h : New B v) (hc : C ≤ B) : New C v := fun x b o e l c hv => Nat.le_trans hc (h x b o e l c hv)
theorem New.word (B : Nat) (x : Int) : New B (.agg #[.int .u64 x,.slice none 0 0]) := fun x b o e l c h => by simp at h
theorem New.at {B b : Nat} {o e : _} {l c : Nat} {x : Int} (h : B ≤ b) : New B (.agg #[.int .u64 x,.slice (some ⟨b,o,e⟩) l c]) := fun x' b' o' e' l' c' hv => by
  simp only [Value.agg.injEq,Array.mk.injEq,List.cons.injEq,Value.slice.injEq,Option.some.injEq,Addr.mk.injEq] at hv
  omega
def RetNatF (n : Int) (w : World) (e : Ending) (w' : World) : Prop := ∃ v,e = .returned v ∧ IsNat w' v n ∧ Below w.heap.size w w' ∧ New w.heap.size v
theorem bodyPost_natF {fn : Func} {p : Tmp} (h : fn.results = #[.cell p 26]) {w W w' : World} {a : Act} {x y x0 : Value} {p0 : Option Addr} {l0 c0 : Nat} {n : Int} {c : Nat} (hd : a.defers = []) (hp : a.tmps.getD p undef = .pointer (some ⟨c,0,none⟩))
    (h0 : Below w.heap.size w W) (hb : Below W.heap.size W w') (hv : IsNat w' (.agg #[x,y]) n) (hg : W.heap[c]? = some (.cells #[x0,.slice p0 l0 c0] 26 (0,0))) (hcw : w.heap.size ≤ c) (hn : New w.heap.size (.agg #[x,y])) :
    bodyPost Tryz.prog fn (RetNatF n w) .ret a ((w'.setCell ⟨c,0,none⟩ x).setCell ⟨c,1,none⟩ y) := by
  have hlt : c < W.heap.size := (Array.getElem?_eq_some_iff.1 hg).1
  have hg' : w'.heap[c]? = some (.cells #[x0,.slice p0 l0 c0] 26 (0,0)) := (hb.block c hlt).trans hg
  have h1 := heap_setCell_same w' c 0 _ _ x hg'
  have h2 := heap_setCell_same _ c 1 _ _ y h1
  have hs := RetNat.stored h0 hb hv (c := c) (p := p0) (m := l0) (q := c0) (by rw [cell_of_row w' c 1 _ _ (0,0) hg']; rfl) hcw x y
  refine bodyPost_ret (v := .agg #[x,y]) (results_cell_row h a.tmps _ c _ _ (0,0) _ hp h2 Tryz.underlying26 rfl (by kernel_rfl)) hd ?_
  obtain ⟨v,e,i,b⟩ := hs
  cases e
  exact ⟨_,rfl,i,b,hn⟩
set_option maxHeartbeats 400000 in
theorem made_new (b : Nat) (t : TypeId) (len cap : Nat) (l : List Int) (w : World) (ha : Arr w b t .u64 l) (hl : len ≤ cap) (hc : cap ≤ l.length) (hm : len ≤ 140737488355328) (hw : Words l) :
    Calls Tryz.prog 79 #[.slice (some ⟨b,0,none⟩) len cap] w (fun e w' => ∃ v,e = .returned v ∧ IsNat w' v (val (l.take len)) ∧ Below w.heap.size w w' ∧ New b v) := by
  have h1 := trimLen_le l len
  have h2 := trimLen_last l len
  have h3 := val_trim l len (by omega)
  have tr := fun w' (h : Arr w' b t .u64 l) => trim_any b t len cap l w' h hl hc hm
  generalize trimLen l len = m at h1 h2 h3 tr
  have H2 := Lib.hid h2
  have H3 := Lib.hid h3
  have Tr := Lib.hid tr
  clear h2 h3 tr
  match m,h1,H2,H3,Tr with
  | 0,h1,H2,H3,Tr =>
    go_enter Tryz.func79,Tryz.ntmps79
    go_wp2_with (go_at_call 104; refine (Tr.out _ (ha.alloc _)).mono ?_; rintro e w' ⟨rfl,rfl⟩)
    go_returns
    rw [← H3.out]
    exact ⟨_,rfl,IsNat.word ⟨by decide,by decide⟩,by go_grown,New.word _ _⟩
  | 1,h1,H2,H3,Tr =>
    have hcell := (ha.alloc (.cells #[Value.int .u64 0,.slice none 0 0] 26)).cell 0 (by omega)
    have hx := hw.getD 0
    have H4 : Hid (l.getD 0 0 = val (l.take 1)) := by
      cases l with
      | nil => simp at hc; omega
      | cons x l => simp [Hid,val]
    generalize l.getD 0 0 = x at hcell hx H4
    go_enter Tryz.func79,Tryz.ntmps79
    go_wp2_with (go_at_call 104; refine (Tr.out _ (ha.alloc _)).mono ?_; rintro e w' ⟨rfl,rfl⟩)
    go_returns
    rw [← H3.out,← H4.out]
    exact ⟨_,rfl,IsNat.word hx,by go_grown,New.word _ _⟩
  | m + 2,h1,H2,H3,Tr =>
    have e0 : (((m + 2 : Nat) : Int) == 0) = false := by simp; omega
    have e1 : (((m + 2 : Nat) : Int) == 1) = false := by simp; omega
    go_enter Tryz.func79,Tryz.ntmps79
    go_wp2_with (go_at_call 104; refine (Tr.out _ (ha.alloc _)).mono ?_; rintro e w' ⟨rfl,rfl⟩)
    go_returns
    rw [← H3.out]
    refine ⟨_,rfl,.inr ⟨b,t,m + 2,cap,l,rfl,?_,by omega,by omega,hc,by omega,hw,H2.out (by omega),rfl⟩,by go_grown,New.at (Nat.le_refl _)⟩
    exact ha.alloc _
theorem pair_new (hi lo : Int) (hh : hi = 0 ∨ hi = 1) (hl : Word lo) (w : World) :
    Calls Tryz.prog 77 #[.int .u64 hi,.int .u64 lo] w (RetNatF (lo + 18446744073709551616 * hi) w) := by
  rcases hh with rfl | rfl
  · refine (pair_zero lo w).mono fun e w' ⟨he,hb⟩ => ⟨_,he,?_,hb,New.word _ _⟩
    simpa using IsNat.word (w := w') hl
  · refine (pair_two 1 lo (by decide) w).mono fun e w' ⟨he,hb,ha⟩ => ⟨_,he,.inr ⟨_,_,2,2,_,rfl,ha,by decide,by decide,by simp,by simp,?_,by simp,by simp [val]⟩,hb,New.at (by omega)⟩
    exact Words.cons hl (Words.cons ⟨by decide,by decide⟩ Words.nil)
theorem add_wordsF (n m : Int) (hn : Word n) (hm : Word m) (w : World) :
    Calls Tryz.prog 53 #[.agg #[.int .u64 n,.slice none 0 0],.agg #[.int .u64 m,.slice none 0 0]] w (RetNatF (n + m) w) := by
  have e1 := eqnil
  have he := add_eq n m 0
  have hh := addHi_bit hn hm (c := 0) (.inl rfl)
  have hl := addLo_word n m 0
  have hs := add64' n m 0 hn hm (.inl rfl)
  generalize addLo n m 0 = lo at he hl hs
  generalize addHi n m 0 = hi at he hh hs
  have He := Lib.hid he
  have Hh := Lib.hid hh
  clear he hh
  go_enter Tryz.func53,Tryz.ntmps53
  go_wp2_with (go_at_call 77; refine (pair_new _ _ Hh.out hl _).mono ?_; rintro e w' ⟨v,rfl,hv,hb,hnw⟩; obtain ⟨xa,xp,xl,xc,rfl⟩ := hv.shape; obtain ⟨hc,hf⟩ := bcell hb)
  rw [show n + m = lo + 18446744073709551616 * hi by have := He.out; omega]
  have hnw2 := hnw.mono (C := w.heap.size) (by first | omega | (simp; omega))
  exact bodyPost_natF Tryz.results53 rfl rfl (by go_grown) hb hv (heap_new _ _ _ (by simp)) (by omega) hnw2
set_option maxRecDepth 100000 in
set_option maxHeartbeats 1000000 in
theorem add_mmF (b1 t1 n1 c1 : Nat) (l1 : List Int) (b2 t2 n2 c2 : Nat) (l2 : List Int) (w : World) (ha1 : Arr w b1 t1 .u64 l1) (ha2 : Arr w b2 t2 .u64 l2) (h1 : n1 ≤ l1.length) (hp : 2 ≤ n1) (h2 : n2 ≤ l2.length) (hle : n2 ≤ n1) (hw2 : Words l2) (hX : val (l2.take n2) < pw n1) (hm : n1 ≤ 4294967296) (hw1 : Words l1) :
    Calls Tryz.prog 53 #[.agg #[.int .u64 0,.slice (some ⟨b1,0,none⟩) n1 c1],.agg #[.int .u64 0,.slice (some ⟨b2,0,none⟩) n2 c2]] w (RetNatF (val (l1.take n1) + val (l2.take n2)) w) := by
  have e1 := eqnil
  have hlt : ¬ n1 < n2 := by omega
  have k2 := ha2.lt
  have hX0 := (val_bd (hw2.take n2)).1
  have hmk := make64 (n1 + 1) (n1 + 1) (by omega) (by omega)
  have k1 := ha1.lt
  go_enter Tryz.func53,Tryz.ntmps53
  go_wp2_with (with_reducible refine wpList_copy_arr rfl (.tmp 42) (.tmp 44) 24 24 rfl 23 Tryz.underlying24 (by kernel_rfl) (w.heap.size + 1 + 1 + 1 + 1) 0 (n1 + 1) (n1 + 1) b1 0 n1 c1 rfl rfl 23 t1 .u64 (List.replicate (n1 + 1) 0) l1 ?c1 ?c2 (by omega) (by omega) (by simp) ?c3)
  case c1 => exact Arr.zeros _ _ _ _ _ (by simp)
  case c2 => exact ((((ha1.alloc _).alloc _).alloc _).alloc _).alloc _
  case c3 =>
  intro w1 hz hg1
  have hz1 : Arr w1 (w.heap.size + 1 + 1 + 1 + 1) 23 .u64 (l1.take n1 ++ [0]) := by rw [← splice_zero l1 n1 h1]; exact hz.out
  have hB1 : Below (w.heap.size + 1 + 1 + 1) (((w.alloc (.cells #[.int .u64 0,.slice (some ⟨b1,0,none⟩) n1 c1] 26)).alloc (.cells #[.int .u64 0,.slice (some ⟨b2,0,none⟩) n2 c2] 26)).alloc (.cells #[.int .u64 0,.slice none 0 0] 26)) w1 := Below.ofGrown (((Below.refl _ _).alloc (by simp) _).alloc (by simp) _) hg1 (by simp) (by omega)
  have ha2' : Arr w1 b2 t2 .u64 l2 := (((ha2.alloc _).alloc _).alloc _).below hB1 (by omega)
  clear hz hg1 hmk
  obtain ⟨hc1,hf1⟩ := bcell (W := ((w.alloc _).alloc _).alloc _) (by simpa using hB1)
  go_wp2_with (go_at_call 72; refine (words_many b2 n2 c2 _ _).mono ?_; rintro e w2 ⟨rfl,hb2⟩)
  have hz2 := hz1.below hb2 hz1.lt
  have hx2 := ha2'.below hb2 ha2'.lt
  have hB2 := hB1.trans (hb2.mono (by have := hz1.lt; omega))
  have hs2 := hb2.size
  have hlen : (l1.take n1 ++ [0]).length = n1 + 1 := by simp; omega
  have ww : Words (l1.take n1 ++ [0]) := (hw1.take n1).append (Words.cons ⟨by decide,by decide⟩ Words.nil)
  refine (addTo_any (w.heap.size + 1 + 1 + 1 + 1) 0 (n1 + 1) (n1 + 1) b2 0 n2 c2 23 t2 (l1.take n1 ++ [0]) l2 w2 hz2 hx2 (by omega) (by omega) (by omega) (by omega) (by omega) ww hw2).mono ?_
  rintro e w3 ⟨rfl,c,hadd⟩
  rw [seg_all] at hadd
  obtain ⟨lk,hak,hlk,hwk,hval,hg3⟩ := hadd.sum h1 hw1 hX0 hX
  have hB3 := Below.ofGrown hB2 hg3 (by have := hz2.lt; omega) (by omega)
  have Hval := Lib.hid hval
  have Hlk := Lib.hid hlk
  clear hval hlk hadd hlen hc1 hf1
  obtain ⟨hc3,hf3⟩ := bcell (W := ((w.alloc _).alloc _).alloc _) (by simpa using hB3)
  go_wp2_with (go_at_call 79; refine (made_new (w.heap.size + 1 + 1 + 1 + 1) 23 (n1 + 1) (n1 + 1) lk _ hak (Nat.le_refl _) (by have := Hlk.out; omega) (by have := Hlk.out; omega) hwk).mono ?_; rintro e w4 ⟨v,rfl,hv,hb4,hnw⟩; obtain ⟨xa,xp,xl,xc,rfl⟩ := hv.shape; clear hc3 hf3; have hB4 := hB3.trans (hb4.mono (by have := hak.lt; omega)); obtain ⟨hc4,hf4⟩ := bcell (W := ((w.alloc _).alloc _).alloc _) (by simpa using hB4))
  rw [← Hval.out]
  have hnw2 := hnw.mono (C := w.heap.size) (by first | omega | (simp; omega))
  exact bodyPost_natF Tryz.results53 rfl rfl (W := (((w.alloc (.cells #[.int .u64 0,.slice (some ⟨b1,0,none⟩) n1 c1] 26)).alloc (.cells #[.int .u64 0,.slice (some ⟨b2,0,none⟩) n2 c2] 26)).alloc (.cells #[.int .u64 0,.slice none 0 0] 26))) (by go_grown) (by simpa using hB4) hv (heap_new _ _ _ (by simp)) (by omega) hnw2
set_option maxRecDepth 100000 in
set_option maxRecDepth 100000 in
set_option maxHeartbeats 1000000 in
theorem add_mm2F (b1 t1 n1 c1 : Nat) (l1 : List Int) (b2 t2 n2 c2 : Nat) (l2 : List Int) (w : World) (ha1 : Arr w b1 t1 .u64 l1) (ha2 : Arr w b2 t2 .u64 l2) (h1 : n1 ≤ l1.length) (hp : 2 ≤ n1) (h2 : n2 ≤ l2.length) (hle : n2 < n1) (hw2 : Words l2) (hX : val (l2.take n2) < pw n1) (hm : n1 ≤ 4294967296) (hw1 : Words l1) :
    Calls Tryz.prog 53 #[.agg #[.int .u64 0,.slice (some ⟨b2,0,none⟩) n2 c2],.agg #[.int .u64 0,.slice (some ⟨b1,0,none⟩) n1 c1]] w (RetNatF (val (l1.take n1) + val (l2.take n2)) w) := by
  have e1 := eqnil
  have hlt : n2 < n1 := hle
  have k2 := ha2.lt
  have hX0 := (val_bd (hw2.take n2)).1
  have hmk := make64 (n1 + 1) (n1 + 1) (by omega) (by omega)
  have k1 := ha1.lt
  go_enter Tryz.func53,Tryz.ntmps53
  go_wp2_with (with_reducible refine wpList_copy_arr rfl (.tmp 42) (.tmp 44) 24 24 rfl 23 Tryz.underlying24 (by kernel_rfl) (w.heap.size + 1 + 1 + 1 + 1) 0 (n1 + 1) (n1 + 1) b1 0 n1 c1 rfl rfl 23 t1 .u64 (List.replicate (n1 + 1) 0) l1 ?c1 ?c2 (by omega) (by omega) (by simp) ?c3)
  case c1 => exact Arr.zeros _ _ _ _ _ (by simp)
  case c2 => exact ((((ha1.alloc _).alloc _).alloc _).alloc _).alloc _
  case c3 =>
  intro w1 hz hg1
  have hz1 : Arr w1 (w.heap.size + 1 + 1 + 1 + 1) 23 .u64 (l1.take n1 ++ [0]) := by rw [← splice_zero l1 n1 h1]; exact hz.out
  have hB1 : Below (w.heap.size + 1 + 1 + 1) (((w.alloc (.cells #[.int .u64 0,.slice (some ⟨b1,0,none⟩) n1 c1] 26)).alloc (.cells #[.int .u64 0,.slice (some ⟨b2,0,none⟩) n2 c2] 26)).alloc (.cells #[.int .u64 0,.slice none 0 0] 26)) w1 := Below.ofGrown (((Below.refl _ _).alloc (by simp) _).alloc (by simp) _) hg1 (by simp) (by omega)
  have ha2' : Arr w1 b2 t2 .u64 l2 := (((ha2.alloc _).alloc _).alloc _).below hB1 (by omega)
  clear hz hg1 hmk
  obtain ⟨hc1,hf1⟩ := bcell (W := ((w.alloc _).alloc _).alloc _) (by simpa using hB1)
  go_wp2_with (go_at_call 72; refine (words_many b2 n2 c2 _ _).mono ?_; rintro e w2 ⟨rfl,hb2⟩)
  have hz2 := hz1.below hb2 hz1.lt
  have hx2 := ha2'.below hb2 ha2'.lt
  have hB2 := hB1.trans (hb2.mono (by have := hz1.lt; omega))
  have hs2 := hb2.size
  have hlen : (l1.take n1 ++ [0]).length = n1 + 1 := by simp; omega
  have ww : Words (l1.take n1 ++ [0]) := (hw1.take n1).append (Words.cons ⟨by decide,by decide⟩ Words.nil)
  refine (addTo_any (w.heap.size + 1 + 1 + 1 + 1) 0 (n1 + 1) (n1 + 1) b2 0 n2 c2 23 t2 (l1.take n1 ++ [0]) l2 w2 hz2 hx2 (by omega) (by omega) (by omega) (by omega) (by omega) ww hw2).mono ?_
  rintro e w3 ⟨rfl,c,hadd⟩
  rw [seg_all] at hadd
  obtain ⟨lk,hak,hlk,hwk,hval,hg3⟩ := hadd.sum h1 hw1 hX0 hX
  have hB3 := Below.ofGrown hB2 hg3 (by have := hz2.lt; omega) (by omega)
  have Hval := Lib.hid hval
  have Hlk := Lib.hid hlk
  clear hval hlk hadd hlen hc1 hf1
  obtain ⟨hc3,hf3⟩ := bcell (W := ((w.alloc _).alloc _).alloc _) (by simpa using hB3)
  go_wp2_with (go_at_call 79; refine (made_new (w.heap.size + 1 + 1 + 1 + 1) 23 (n1 + 1) (n1 + 1) lk _ hak (Nat.le_refl _) (by have := Hlk.out; omega) (by have := Hlk.out; omega) hwk).mono ?_; rintro e w4 ⟨v,rfl,hv,hb4,hnw⟩; obtain ⟨xa,xp,xl,xc,rfl⟩ := hv.shape; clear hc3 hf3; have hB4 := hB3.trans (hb4.mono (by have := hak.lt; omega)); obtain ⟨hc4,hf4⟩ := bcell (W := ((w.alloc _).alloc _).alloc _) (by simpa using hB4))
  rw [← Hval.out]
  have hnw2 := hnw.mono (C := w.heap.size) (by first | omega | (simp; omega))
  exact bodyPost_natF Tryz.results53 rfl rfl (W := (((w.alloc (.cells #[.int .u64 0,.slice (some ⟨b1,0,none⟩) n1 c1] 26)).alloc (.cells #[.int .u64 0,.slice (some ⟨b2,0,none⟩) n2 c2] 26)).alloc (.cells #[.int .u64 0,.slice none 0 0] 26))) (by go_grown) (by simpa using hB4) hv (heap_new _ _ _ (by simp)) (by omega) hnw2
set_option maxRecDepth 100000 in
set_option maxRecDepth 100000 in
set_option maxHeartbeats 1000000 in
theorem add_mwF (b1 t1 n1 c1 : Nat) (l1 : List Int) (m : Int) (hmw : Word m) (w : World) (ha1 : Arr w b1 t1 .u64 l1) (h1 : n1 ≤ l1.length) (hp : 2 ≤ n1) (hm : n1 ≤ 4294967296) (hw1 : Words l1) :
    Calls Tryz.prog 53 #[.agg #[.int .u64 0,.slice (some ⟨b1,0,none⟩) n1 c1],.agg #[.int .u64 m,.slice none 0 0]] w (RetNatF (val (l1.take n1) + m) w) := by
  have e1 := eqnil
  have hlt : ¬ n1 < 0 := by omega
  have hmk := make64 (n1 + 1) (n1 + 1) (by omega) (by omega)
  have k1 := ha1.lt
  go_enter Tryz.func53,Tryz.ntmps53
  go_wp2_with (with_reducible refine wpList_copy_arr rfl (.tmp 42) (.tmp 44) 24 24 rfl 23 Tryz.underlying24 (by kernel_rfl) (w.heap.size + 1 + 1 + 1 + 1) 0 (n1 + 1) (n1 + 1) b1 0 n1 c1 rfl rfl 23 t1 .u64 (List.replicate (n1 + 1) 0) l1 ?c1 ?c2 (by omega) (by omega) (by simp) ?c3)
  case c1 => exact Arr.zeros _ _ _ _ _ (by simp)
  case c2 => exact ((((ha1.alloc _).alloc _).alloc _).alloc _).alloc _
  case c3 =>
  intro w1 hz hg1
  have hz1 : Arr w1 (w.heap.size + 1 + 1 + 1 + 1) 23 .u64 (l1.take n1 ++ [0]) := by rw [← splice_zero l1 n1 h1]; exact hz.out
  have hB1 : Below (w.heap.size + 1 + 1 + 1) (((w.alloc (.cells #[.int .u64 0,.slice (some ⟨b1,0,none⟩) n1 c1] 26)).alloc (.cells #[.int .u64 m,.slice none 0 0] 26)).alloc (.cells #[.int .u64 0,.slice none 0 0] 26)) w1 := Below.ofGrown (((Below.refl _ _).alloc (by simp) _).alloc (by simp) _) hg1 (by simp) (by omega)
  have hr1 : Arr w1 (w.heap.size + 1 + 1 + 1) 121 .u64 [0] := (Arr.alloc (Arr.new _ _ _ [0] _ (by simp)) _).grown hg1 (by simp)
  clear hz hg1 hmk
  obtain ⟨hc1,hf1⟩ := bcell (W := ((w.alloc _).alloc _).alloc _) (by simpa using hB1)
  go_wp2_with (go_at_call 72; refine (words_word m hmw (w.heap.size + 1 + 1 + 1) _ 0 _ hr1).mono ?_; rintro e w2 ⟨rfl,hx2,hg2⟩)
  have hz2 := hz1.grown hg2 (by simp)
  have hB2 := Below.ofGrown hB1 hg2 (by have := hz1.lt; omega) (by omega)
  have hs2 := hg2.size
  have htl := trimLen_le [m] 1
  have hlen : (l1.take n1 ++ [0]).length = n1 + 1 := by simp; omega
  have ww : Words (l1.take n1 ++ [0]) := (hw1.take n1).append (Words.cons ⟨by decide,by decide⟩ Words.nil)
  refine (addTo_any (w.heap.size + 1 + 1 + 1 + 1) 0 (n1 + 1) (n1 + 1) (w.heap.size + 1 + 1 + 1) 0 (trimLen [m] 1) 1 23 _ (l1.take n1 ++ [0]) [m] w2 hz2 hx2 (by omega) (by omega) (by simpa using htl) (by omega) (by omega) ww (Words.cons hmw Words.nil)).mono ?_
  rintro e w3 ⟨rfl,c,hadd⟩
  rw [seg_all,val_trim [m] 1 (by simp)] at hadd
  have hvm : val ([m].take 1) = m := by simp [val]
  rw [hvm] at hadd
  have hmp : m < pw n1 := by have := pw_big hp; unfold Word at hmw; omega
  obtain ⟨lk,hak,hlk,hwk,hval,hg3⟩ := hadd.sum h1 hw1 hmw.1 hmp
  have hB3 := Below.ofGrown hB2 hg3 (by have := hz2.lt; omega) (by omega)
  have Hval := Lib.hid hval
  have Hlk := Lib.hid hlk
  clear hval hlk hadd hlen hc1 hf1
  obtain ⟨hc3,hf3⟩ := bcell (W := ((w.alloc _).alloc _).alloc _) (by simpa using hB3)
  go_wp2_with (go_at_call 79; refine (made_new (w.heap.size + 1 + 1 + 1 + 1) 23 (n1 + 1) (n1 + 1) lk _ hak (Nat.le_refl _) (by have := Hlk.out; omega) (by have := Hlk.out; omega) hwk).mono ?_; rintro e w4 ⟨v,rfl,hv,hb4,hnw⟩; obtain ⟨xa,xp,xl,xc,rfl⟩ := hv.shape; clear hc3 hf3; have hB4 := hB3.trans (hb4.mono (by have := hak.lt; omega)); obtain ⟨hc4,hf4⟩ := bcell (W := ((w.alloc _).alloc _).alloc _) (by simpa using hB4))
  rw [← Hval.out]
  have hnw2 := hnw.mono (C := w.heap.size) (by first | omega | (simp; omega))
  exact bodyPost_natF Tryz.results53 rfl rfl (W := (((w.alloc (.cells #[.int .u64 0,.slice (some ⟨b1,0,none⟩) n1 c1] 26)).alloc (.cells #[.int .u64 m,.slice none 0 0] 26)).alloc (.cells #[.int .u64 0,.slice none 0 0] 26))) (by go_grown) (by simpa using hB4) hv (heap_new _ _ _ (by simp)) (by omega) hnw2
set_option maxRecDepth 100000 in
set_option maxRecDepth 100000 in
set_option maxHeartbeats 1000000 in
theorem add_wmF (b1 t1 n1 c1 : Nat) (l1 : List Int) (m : Int) (hmw : Word m) (w : World) (ha1 : Arr w b1 t1 .u64 l1) (h1 : n1 ≤ l1.length) (hp : 2 ≤ n1) (hm : n1 ≤ 4294967296) (hw1 : Words l1) :
    Calls Tryz.prog 53 #[.agg #[.int .u64 m,.slice none 0 0],.agg #[.int .u64 0,.slice (some ⟨b1,0,none⟩) n1 c1]] w (RetNatF (val (l1.take n1) + m) w) := by
  have e1 := eqnil
  have hlt : (0 : Int) < n1 := by omega
  have hlt2 : 0 < n1 := by omega
  have hmk := make64 (n1 + 1) (n1 + 1) (by omega) (by omega)
  have k1 := ha1.lt
  go_enter Tryz.func53,Tryz.ntmps53
  go_wp2_with (with_reducible refine wpList_copy_arr rfl (.tmp 42) (.tmp 44) 24 24 rfl 23 Tryz.underlying24 (by kernel_rfl) (w.heap.size + 1 + 1 + 1 + 1) 0 (n1 + 1) (n1 + 1) b1 0 n1 c1 rfl rfl 23 t1 .u64 (List.replicate (n1 + 1) 0) l1 ?c1 ?c2 (by omega) (by omega) (by simp) ?c3)
  case c1 => exact Arr.zeros _ _ _ _ _ (by simp)
  case c2 => exact ((((ha1.alloc _).alloc _).alloc _).alloc _).alloc _
  case c3 =>
  intro w1 hz hg1
  have hz1 : Arr w1 (w.heap.size + 1 + 1 + 1 + 1) 23 .u64 (l1.take n1 ++ [0]) := by rw [← splice_zero l1 n1 h1]; exact hz.out
  have hB1 : Below (w.heap.size + 1 + 1 + 1) (((w.alloc (.cells #[.int .u64 0,.slice (some ⟨b1,0,none⟩) n1 c1] 26)).alloc (.cells #[.int .u64 m,.slice none 0 0] 26)).alloc (.cells #[.int .u64 0,.slice none 0 0] 26)) w1 := Below.ofGrown (((Below.refl _ _).alloc (by simp) _).alloc (by simp) _) hg1 (by simp) (by omega)
  have hr1 : Arr w1 (w.heap.size + 1 + 1 + 1) 121 .u64 [0] := (Arr.alloc (Arr.new _ _ _ [0] _ (by simp)) _).grown hg1 (by simp)
  clear hz hg1 hmk
  obtain ⟨hc1,hf1⟩ := bcell (W := ((w.alloc _).alloc _).alloc _) (by simpa using hB1)
  go_wp2_with (go_at_call 72; refine (words_word m hmw (w.heap.size + 1 + 1 + 1) _ 0 _ hr1).mono ?_; rintro e w2 ⟨rfl,hx2,hg2⟩)
  have hz2 := hz1.grown hg2 (by simp)
  have hB2 := Below.ofGrown hB1 hg2 (by have := hz1.lt; omega) (by omega)
  have hs2 := hg2.size
  have htl := trimLen_le [m] 1
  have hlen : (l1.take n1 ++ [0]).length = n1 + 1 := by simp; omega
  have ww : Words (l1.take n1 ++ [0]) := (hw1.take n1).append (Words.cons ⟨by decide,by decide⟩ Words.nil)
  refine (addTo_any (w.heap.size + 1 + 1 + 1 + 1) 0 (n1 + 1) (n1 + 1) (w.heap.size + 1 + 1 + 1) 0 (trimLen [m] 1) 1 23 _ (l1.take n1 ++ [0]) [m] w2 hz2 hx2 (by omega) (by omega) (by simpa using htl) (by omega) (by omega) ww (Words.cons hmw Words.nil)).mono ?_
  rintro e w3 ⟨rfl,c,hadd⟩
  rw [seg_all,val_trim [m] 1 (by simp)] at hadd
  have hvm : val ([m].take 1) = m := by simp [val]
  rw [hvm] at hadd
  have hmp : m < pw n1 := by have := pw_big hp; unfold Word at hmw; omega
  obtain ⟨lk,hak,hlk,hwk,hval,hg3⟩ := hadd.sum h1 hw1 hmw.1 hmp
  have hB3 := Below.ofGrown hB2 hg3 (by have := hz2.lt; omega) (by omega)
  have Hval := Lib.hid hval
  have Hlk := Lib.hid hlk
  clear hval hlk hadd hlen hc1 hf1
  obtain ⟨hc3,hf3⟩ := bcell (W := ((w.alloc _).alloc _).alloc _) (by simpa using hB3)
  go_wp2_with (go_at_call 79; refine (made_new (w.heap.size + 1 + 1 + 1 + 1) 23 (n1 + 1) (n1 + 1) lk _ hak (Nat.le_refl _) (by have := Hlk.out; omega) (by have := Hlk.out; omega) hwk).mono ?_; rintro e w4 ⟨v,rfl,hv,hb4,hnw⟩; obtain ⟨xa,xp,xl,xc,rfl⟩ := hv.shape; clear hc3 hf3; have hB4 := hB3.trans (hb4.mono (by have := hak.lt; omega)); obtain ⟨hc4,hf4⟩ := bcell (W := ((w.alloc _).alloc _).alloc _) (by simpa using hB4))
  rw [← Hval.out]
  have hnw2 := hnw.mono (C := w.heap.size) (by first | omega | (simp; omega))
  exact bodyPost_natF Tryz.results53 rfl rfl (W := (((w.alloc (.cells #[.int .u64 0,.slice (some ⟨b1,0,none⟩) n1 c1] 26)).alloc (.cells #[.int .u64 m,.slice none 0 0] 26)).alloc (.cells #[.int .u64 0,.slice none 0 0] 26))) (by go_grown) (by simpa using hB4) hv (heap_new _ _ _ (by simp)) (by omega) hnw2
theorem add_anyF (K : Nat) (hK : K ≤ 4294967296) (v1 v2 : Value) (n m : Int) (w : World) (h1 : IsNat w v1 n) (h2 : IsNat w v2 m) (hn : n < pw K) (hm : m < pw K) :
    Calls Tryz.prog 53 #[v1,v2] w (RetNatF (n + m) w) := by
  rcases h1 with ⟨wn,rfl⟩ | ⟨b1,t1,n1,c1,l1,rfl,ha1,hp1,hc1,hl1,hb1,hw1,hz1,rfl⟩
  · rcases h2 with ⟨wm,rfl⟩ | ⟨b2,t2,n2,c2,l2,rfl,ha2,hp2,hc2,hl2,hb2,hw2,hz2,rfl⟩
    · exact add_wordsF n m wn wm w
    · rw [Int.add_comm]
      exact add_wmF b2 t2 n2 c2 l2 n wn w ha2 (by omega) hp2 (by have := len_le hw2 (by omega) (by omega) hz2 hm; omega) hw2
  · have L1 := len_le hw1 (by omega) (by omega) hz1 hn
    rcases h2 with ⟨wm,rfl⟩ | ⟨b2,t2,n2,c2,l2,rfl,ha2,hp2,hc2,hl2,hb2,hw2,hz2,rfl⟩
    · exact add_mwF b1 t1 n1 c1 l1 m wm w ha1 (by omega) hp1 (by omega) hw1
    · have L2 := len_le hw2 (by omega) (by omega) hz2 hm
      have B1 := (val_bd (hw1.take n1)).2
      have B2 := (val_bd (hw2.take n2)).2
      rw [List.length_take,Nat.min_eq_left (by omega)] at B1 B2
      by_cases hle : n2 ≤ n1
      · exact add_mmF b1 t1 n1 c1 l1 b2 t2 n2 c2 l2 w ha1 ha2 (by omega) hp1 (by omega) hle hw2 (by have := pw_mono hle; omega) (by omega) hw1
      · rw [Int.add_comm]
        exact add_mm2F b2 t2 n2 c2 l2 b1 t1 n1 c1 l1 w ha2 ha1 (by omega) hp2 (by omega) (by omega) hw1 (by have := pw_mono (a := n1) (b := n2) (by omega); omega) (by omega) hw2
end Go.Proofs.YtgccgacpifebbaaGreatDoor
