/- FreshS -/
import Derived.Test.YtgccgacpifebbaaGreatDoorZb42
import Derived.Test.YtgccgacpifebbaaGreatDoorZb12
namespace Go.Proofs.YtgccgacpifebbaaGreatDoor
open Go.RowKit
set_option linter.unusedVariables false
def RetOneF (q : Int) (w : World) (e : Ending) (w' : World) : Prop := ∃ v1,e = .returned (.tuple #[v1,.bool true]) ∧ IsNat w' v1 q ∧ Below w.heap.size w w' ∧ New w.heap.size v1
theorem bodyPost_oneF {fn : Func} {p s : Tmp} (h : fn.results = #[.cell p 26,.tmp s]) {w w' : World} {a : Act} {x y : Value} {Q : Int} {c : Nat} (hd : a.defers = [])
    (hp : a.tmps.getD p undef = .pointer (some ⟨c,0,none⟩)) (hs : a.tmps.getD s undef = .bool true) (hc : Var w' c x y)
    (h1 : IsNat w' (.agg #[x,y]) Q) (hB : Below w.heap.size w w') (hn : New w.heap.size (.agg #[x,y])) : bodyPost Tryz.prog fn (RetOneF Q w) .ret a w' := by
  refine bodyPost_ret (v := .tuple #[.agg #[x,y],.bool true]) ?_ hd ⟨_,rfl,h1,hB,hn⟩
  have hp' : a.tmps[p]?.getD undef = .pointer (some ⟨c,0,none⟩) := by simpa using hp
  have hs' : a.tmps[s]?.getD undef = .bool true := by simpa using hs
  simp [results,h,hp',hs',asAddr,run_loadVar_nat hc]
set_option maxRecDepth 100000 in
set_option maxHeartbeats 1000000 in
theorem sub_manyF (K : Nat) (hK : 1 ≤ K) (hK2 : K ≤ 4294967296) (b1 t1 n1 c1 : Nat) (l1 : List Int) (x2 : Int) (p2 : Option Addr) (m2 k2 : Nat) (m : Int) (w : World) (ha1 : Arr w b1 t1 .u64 l1) (hp1 : 2 ≤ n1) (hc1 : n1 ≤ c1) (hl1 : c1 ≤ l1.length) (hw1 : Words l1) (hz1 : l1.getD (n1 - 1) 0 ≠ 0)
    (h2 : IsNat w (.agg #[.int .u64 x2,.slice p2 m2 k2]) m) (hn : val (l1.take n1) < pw K) (hm : m ≤ val (l1.take n1)) :
    Calls Tryz.prog 54 #[.agg #[.int .u64 0,.slice (some ⟨b1,0,none⟩) n1 c1],.agg #[.int .u64 x2,.slice p2 m2 k2]] w (RetOneF (val (l1.take n1) - m) w) := by
  have e1 := eqnil
  have hnK := len_le hw1 (by omega) (by omega) hz1 hn
  have hcmp := fun w' (hb : Below w.heap.size w w') => cmp_any (.agg #[.int .u64 0,.slice (some ⟨b1,0,none⟩) n1 c1]) (.agg #[.int .u64 x2,.slice p2 m2 k2]) (val (l1.take n1)) m w' (IsNat.below (.inr ⟨b1,t1,n1,c1,l1,rfl,ha1,hp1,hc1,hl1,by omega,hw1,hz1,rfl⟩) hb) (h2.below hb)
  have hd : ¬ cmpI (val (l1.take n1)) m < 0 := by unfold cmpI; rw [if_neg (by omega)]; split <;> omega
  obtain ⟨d,hdd⟩ : ∃ d,cmpI (val (l1.take n1)) m = d := ⟨_,rfl⟩
  rw [hdd] at hcmp hd
  clear hdd
  have k1 := ha1.lt
  go_enter Tryz.func54,Tryz.ntmps54
  go_wp2_with fail
  refine (hcmp _ (by go_grown)).mono ?_
  rintro e w2 ⟨rfl,hb2⟩
  obtain ⟨v0,v1,v2,hB2,hS⟩ := boxes3 hb2
  clear hcmp hb2
  have c00 := v0.c0
  have c01 := v0.c1
  have c10 := v1.c0
  have c11 := v1.c1
  have hS1 : w.heap.size < w2.heap.size := by omega
  have hS2 : w.heap.size + 1 < w2.heap.size := by omega
  have hS3 : w.heap.size + 1 + 1 < w2.heap.size := by omega
  go_wp2_with fail
  have r3 : Arr (w2.alloc (.cells #[.int .u64 0] 121)) w2.heap.size 121 .u64 [0] := Arr.new _ _ _ [0] _ rfl
  refine (clone_any b1 t1 n1 c1 l1 _ ((ha1.below hB2 k1).alloc _) (by omega) (by omega) (by omega)).mono ?_
  rintro e w3 ⟨g,cap,kz,rfl,hz,hcap,hg,hb3⟩
  have hS3' := hb3.size
  rw [World.size_alloc] at hS3' hg hb3
  replace r3 := r3.below hb3 (by omega)
  replace v0 := (v0.alloc (.cells #[.int .u64 0] 121)).below hb3 (by omega)
  replace v1 := (v1.alloc (.cells #[.int .u64 0] 121)).below hb3 (by omega)
  replace v2 := (v2.alloc (.cells #[.int .u64 0] 121)).below hb3 (by omega)
  have hB3 : Below w.heap.size w w3 := (hB2.alloc (by omega) _).trans (hb3.mono (by omega))
  have g2 := h2.below hB3
  clear c00 c01 c10 c11 hb3 hS1 hS2
  have c00 := v0.c0
  have c01 := v0.c1
  have c10 := v1.c0
  have c11 := v1.c1
  go_wp2_with fail
  have hb1 := (val_bd (hw1.take n1)).2
  rw [List.length_take,Nat.min_eq_left (by omega)] at hb1
  refine (words_at n1 (by omega) _ m w2.heap.size 121 0 w w3 h2 hB3 (by omega) r3).mono ?_
  rintro e w4 ⟨⟨b2,t2,len2,cap2,l2,rfl,hx,hx1,hx2,hw2,hv2,hbx⟩,hg4⟩
  have hz4 := hz.grown hg4 (by simp; omega)
  have hzl := hz.lt
  have hS4 := hg4.size
  replace v0 := v0.grown hg4 (by simp; omega)
  replace v1 := v1.grown hg4 (by simp; omega)
  replace v2 := v2.grown hg4 (by simp; omega)
  have hB4 : Below w.heap.size w w4 := Below.ofGrown hB3 hg4 (by omega) (by omega)
  have hll : (l1.take n1 ++ List.replicate kz 0).length = n1 + kz := by simp; omega
  have hww : Words (l1.take n1 ++ List.replicate kz 0) := (hw1.take n1).append (Words.replicate kz)
  have hsg : seg (l1.take n1 ++ List.replicate kz 0) 0 n1 = val (l1.take n1) := by
    rw [seg_all,List.take_append_of_le_length (by simp; omega),List.take_of_length_le (by simp; omega)]
  have hsx : seg l2 0 len2 = m := by rw [seg_all,hv2]
  clear c00 c01 c10 c11 hz g2 r3
  have c00 := v0.c0
  have c01 := v0.c1
  go_wp2_with fail
  refine (subFrom_any g 0 n1 (n1 + kz) b2 0 len2 cap2 23 t2 _ l2 w4 hz4 hx (by omega) (by rw [hll]; omega) (by omega) hx2 (by omega) hww hw2 (by rw [hsg,hsx]; exact hm)).mono ?_
  rintro e w5 ⟨rfl,hsub⟩
  obtain ⟨_,lk,hak,hlk,hwk,_,hval,hg5⟩ := hsub
  rw [hsg,hsx,seg_all,Int.zero_mul,Int.add_zero] at hval
  replace v0 := v0.grown hg5 (by simp; omega)
  replace v1 := v1.grown hg5 (by simp; omega)
  replace v2 := v2.grown hg5 (by simp; omega)
  have hB5 : Below w.heap.size w w5 := Below.ofGrown hB4 hg5 (by omega) (by omega)
  have hS5 := hg5.size
  clear c00 c01
  have c20 := v2.c0
  have c21 := v2.c1
  go_wp2_with fail
  refine (made_new g 23 n1 (n1 + kz) lk w5 hak (by omega) (by rw [hlk,hll]; omega) (by omega) hwk).mono ?_
  rintro e w6 ⟨v,rfl,hv,hb6,hnw⟩
  replace hnw := hnw.mono (C := w.heap.size) (by omega)
  obtain ⟨xa,xp,xl,xc,rfl⟩ := hv.shape
  replace v2 := v2.below hb6 (by omega)
  have hB6 : Below w.heap.size w w6 := hB5.trans (hb6.mono (by omega))
  rw [show val (lk.take n1) = val (l1.take n1) - m by omega] at hv
  clear c20 c21
  have c20 := v2.c0
  have c21 := v2.c1
  have f20 := v2.free 0
  have f21 := v2.free 1
  go_wp2
  exact bodyPost_oneF Tryz.results54 rfl rfl rfl (v2.set _ _ _ _) (hv.two v2 _ _) (below_two hB6 (by omega) _ _) hnw
theorem sub_wordsF (n m : Int) (hn : Word n) (hm : Word m) (hle : m ≤ n) (w : World) :
    Calls Tryz.prog 54 #[.agg #[.int .u64 n,.slice none 0 0],.agg #[.int .u64 m,.slice none 0 0]] w (RetOneF (n - m) w) := by
  have e1 := eqnil
  have hcmp := fun w' => cmp_any (.agg #[.int .u64 n,.slice none 0 0]) (.agg #[.int .u64 m,.slice none 0 0]) n m w' (IsNat.word hn) (IsNat.word hm)
  have hd : ¬ cmpI n m < 0 := by unfold cmpI; rw [if_neg (by omega)]; split <;> omega
  obtain ⟨d,hdd⟩ : ∃ d,cmpI n m = d := ⟨_,rfl⟩
  rw [hdd] at hcmp hd
  clear hdd
  have hwr : IntKind.u64.wrap (n - m) = n - m := by rw [IntKind.wrap_u64]; unfold Word at hn hm; omega
  have hwd : Word (n - m) := by unfold Word at hn hm ⊢; omega
  go_enter Tryz.func54,Tryz.ntmps54
  go_wp2_with fail
  refine (hcmp _).mono ?_
  rintro e w2 ⟨rfl,hb2⟩
  obtain ⟨v0,v1,v2,hB2,hS⟩ := boxes3 hb2
  clear hcmp hb2
  have c00 := v0.c0
  have c01 := v0.c1
  have c10 := v1.c0
  have c11 := v1.c1
  have c20 := v2.c0
  have c21 := v2.c1
  have f20 := v2.free 0
  have f21 := v2.free 1
  go_wp2_with fail
  exact bodyPost_oneF Tryz.results54 rfl rfl rfl (v2.set _ _ _ _) ((IsNat.word hwd).two v2 _ _) (below_two hB2 (by omega) _ _) (New.word _ _)
theorem sub_anyF (K : Nat) (hK : 1 ≤ K) (hK2 : K ≤ 4294967296) (v1 v2 : Value) (n m : Int) (w : World) (h1 : IsNat w v1 n) (h2 : IsNat w v2 m) (hn : n < pw K) (hm : m ≤ n) :
    Calls Tryz.prog 54 #[v1,v2] w (RetOneF (n - m) w) := by
  rcases h1 with ⟨wn,rfl⟩ | ⟨b1,t1,n1,c1,l1,rfl,ha1,hp1,hc1,hl1,hb1,hw1,hz1,rfl⟩
  · have h0 := h2.nonneg
    have := h2.one (by unfold Word at wn; omega)
    subst this
    exact sub_wordsF n m wn ⟨h0,by unfold Word at wn; omega⟩ hm w
  · obtain ⟨x2,q2,m2,k2,rfl⟩ := h2.shape
    exact sub_manyF K hK hK2 b1 t1 n1 c1 l1 x2 q2 m2 k2 m w ha1 hp1 hc1 hl1 hw1 hz1 h2 hn hm
end Go.Proofs.YtgccgacpifebbaaGreatDoor
