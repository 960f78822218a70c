/- WordsAny Clone Sub -/
import Derived.Test.YtgccgacpifebbaaGreatDoorZb11
import Derived.Test.YtgccgacpifebbaaGreatDoorZb08
import Derived.Test.YtgccgacpifebbaaGreatDoorZb02
import Derived.Lib.AppendZeros
import Derived.Test.YtgccgacpifebbaaGreatDoorZb05
namespace Go.Proofs.YtgccgacpifebbaaGreatDoor
open Go.RowKit
set_option linter.unusedVariables false
theorem Arr.ne_len {w : World} {b c : Nat} {t s : TypeId} {k : IntKind} {l m : List Int} (h : Arr w b t k l) (g : Arr w c s k m) (hl : l.length ≠ m.length) : b ≠ c := by
  rintro rfl
  have e := h.symm.trans g
  simp only [Option.some.injEq,Obj.cells.injEq] at e
  have := congrArg Array.size e.1
  simp at this
  exact hl this
/-- A number stays what it is while a room of one word is written. -/
theorem IsNat.room {w w' : World} {v : Value} {n : Int} {r : Nat} {t : TypeId} {x : Int} (h : IsNat w v n) (hr : Arr w r t .u64 [x]) (hg : w.grownBy w' (some r)) : IsNat w' v n := by
  rcases h with h | ⟨b,s,len,cap,l,hv,ha,h2,h3,h4,rest⟩
  · exact .inl h
  · refine .inr ⟨b,s,len,cap,l,hv,ha.grown hg ?_,h2,h3,h4,rest⟩
    intro e
    exact ha.ne_len hr (by simp; omega) (Option.some.inj e)
/-- What a number's words are: a slice that is worth n. -/
def WordsOf (w : World) (q : Nat) (n : Int) (K : Nat) (v : Value) : Prop := ∃ b t len cap l,v = .slice (some ⟨b,0,none⟩) len cap ∧ Arr w b t .u64 l ∧ len ≤ l.length ∧ len ≤ K ∧ Words l ∧ val (l.take len) = n ∧ b ≠ q
theorem WordsOf.grown {w w' : World} {q : Nat} {n : Int} {K : Nat} {v : Value} (h : WordsOf w q n K v) (hg : w.grownBy w' (some q)) : WordsOf w' q n K v := by
  obtain ⟨b,t,len,cap,l,hv,ha,h1,h2,h3,h4,h5⟩ := h
  exact ⟨b,t,len,cap,l,hv,ha.grown hg (fun e => h5 (Option.some.inj e)),h1,h2,h3,h4,h5⟩
theorem words_any (K : Nat) (hK : 1 ≤ K) (v : Value) (n : Int) (rb : Nat) (t : TypeId) (r0 : Int) (q : Nat) (tq : TypeId) (q0 : Int) (w : World) (hv : IsNat w v n) (hn : n < pw K) (hr : Arr w rb t .u64 [r0]) (hq : Arr w q tq .u64 [q0]) (hne : rb ≠ q) :
    Calls Tryz.prog 72 #[v,.pointer (some ⟨rb,0,none⟩)] w fun e w' => (∃ x,e = .returned x ∧ WordsOf w' q n K x) ∧ (∃ r1,Arr w' rb t .u64 [r1]) ∧ w.grownBy w' (some rb) := by
  rcases hv with ⟨wn,rfl⟩ | ⟨b,s,len,cap,l,rfl,ha,h2,h3,h4,h5,hw,hz,rfl⟩
  · refine (words_word n wn rb t r0 w hr).mono ?_
    rintro e w' ⟨rfl,hx,hg⟩
    have htl := trimLen_le [n] 1
    exact ⟨⟨_,rfl,rb,t,_,_,[n],rfl,hx,by simpa using htl,by omega,Words.cons wn Words.nil,by rw [val_trim [n] 1 (by simp)]; simp [val],hne⟩,⟨_,hx⟩,hg⟩
  · refine (words_many b len cap _ w).mono ?_
    rintro e w' ⟨rfl,hb⟩
    exact ⟨⟨_,rfl,b,s,len,cap,l,rfl,ha.below hb ha.lt,by omega,len_le hw (by omega) (by omega) hz hn,hw,rfl,ha.ne_len hq (by simp; omega)⟩,⟨_,hr.below hb hr.lt⟩,grownBy_below hb (Nat.le_refl _) _⟩
end Go.Proofs.YtgccgacpifebbaaGreatDoor
namespace Go.Proofs.YtgccgacpifebbaaGreatDoor
open Go.RowKit
set_option linter.unusedVariables false
theorem zeroCells_u64 (n : Nat) : Builtin.zeroCells (Value.int .u64 0).cells n = ((List.replicate n (0 : Int)).map (Value.int .u64)).toArray := by
  rw [← Array.toList_inj]
  have h : (Value.int .u64 0).cells = #[Value.int .u64 0] := rfl
  rw [h]
  simp [Builtin.zeroCells,Nat.mod_one]
  exact List.map_const' .. |>.trans (by simp)
set_option maxRecDepth 100000 in
set_option maxHeartbeats 1000000 in
theorem clone_any (b t n c : Nat) (l : List Int) (w : World) (ha : Arr w b t .u64 l) (hn : n ≤ l.length) (hp : 1 ≤ n) (hm : n ≤ 4294967296) :
    Calls Tryz.prog 83 #[.slice (some ⟨b,0,none⟩) n c] w fun e w' => ∃ g cap k,e = .returned (.slice (some ⟨g,0,none⟩) n cap) ∧ Arr w' g 23 .u64 (l.take n ++ List.replicate k 0) ∧ cap = n + k ∧ w.heap.size ≤ g ∧ Below w.heap.size w w' := by
  have k1 := ha.lt
  have e1 := eqnil
  obtain ⟨i0,hi,hz0,hz1,hz2⟩ := info_parts info64
  have hge := grownCap_ge (w.alloc (.cells #[] 23)) (0 + n) 0 23
  have hrun := run_append_grow (P := Tryz.prog) (w.alloc (.cells #[] 23)) 24 24 23 i0 _ Tryz.underlying24 hi hz0 ⟨w.heap.size,0,none⟩ 0 0 [] (by simp) (by simp) ⟨b,0,none⟩ n c ((l.take n).map (Value.int .u64)) (by rw [hz1]; simp; omega) (by
    intro j v hj
    have hjn : j < n ∧ j < l.length := by
      have := (List.getElem?_eq_some_iff.1 hj).1
      simp at this
      omega
    have hadd : (⟨b,0,none⟩ : Addr).add j = ⟨b,j,none⟩ := by unfold Addr.add; split <;> simp_all
    rw [hadd,(ha.alloc _).cell j hjn.2]
    simp only [List.getElem?_map,List.getElem?_take,if_pos hjn.1] at hj
    rw [← hj]
    simp [List.getD_eq_getElem?_getD,List.getElem?_eq_getElem hjn.2]) (by omega) (by omega) (growslice_fits (by omega) (by rw [hz2]; omega))
  obtain ⟨cap,hcap⟩ : ∃ cap,grownCap (w.alloc (.cells #[] 23)) (0 + n) 0 23 = cap := ⟨_,rfl⟩
  rw [hcap] at hge hrun
  rw [zeroCells_u64] at hrun
  have e0 : (#[] : Array Value) ++ ((l.take n).map (Value.int .u64)).toArray ++ ((List.replicate (cap - (0 + n)) (0 : Int)).map (Value.int .u64)).toArray = ((l.take n ++ List.replicate (cap - (0 + n)) 0).map (Value.int .u64)).toArray := by simp
  rw [e0,Nat.zero_add] at hrun
  rw [Nat.zero_add] at hge
  go_enter Tryz.func83,Tryz.ntmps83
  go_wp2_with (at_builtin; refine Lib.wpList_append_run _ rfl _ _ _ _ rfl _ _ rfl rfl _ _ hrun ?_)
  go_wp2
  go_ret
  have hA := Arr.new (w.alloc (.cells #[] 23)) 23 .u64 (l.take n ++ List.replicate (cap - n) 0) (w.heap.size + 1) (by simp)
  rw [List.map_append,List.map_take,List.map_replicate] at hA
  exact ⟨w.heap.size + 1,cap,cap - n,rfl,hA,by omega,by omega,by go_grown⟩
end Go.Proofs.YtgccgacpifebbaaGreatDoor
namespace Go.Proofs.YtgccgacpifebbaaGreatDoor
open Go.RowKit
set_option linter.unusedVariables false
/-- The words of a number that lay there before: they lie in the room or where they lay. -/
theorem words_at (K : Nat) (hK : 1 ≤ K) (v : Value) (n : Int) (rb : Nat) (t : TypeId) (r0 : Int) (w0 w : World) (hv : IsNat w0 v n) (hB : Below w0.heap.size w0 w) (hn : n < pw K) (hr : Arr w rb t .u64 [r0]) :
    Calls Tryz.prog 72 #[v,.pointer (some ⟨rb,0,none⟩)] w fun e w' => (∃ b t len cap l,e = .returned (.slice (some ⟨b,0,none⟩) len cap) ∧ Arr w' b t .u64 l ∧ len ≤ l.length ∧ len ≤ K ∧ Words l ∧ val (l.take len) = n ∧ (b = rb ∨ b < w0.heap.size)) ∧ w.grownBy w' (some rb) := by
  rcases hv with ⟨wn,rfl⟩ | ⟨b,s,len,cap,l,rfl,ha,h2,h3,h4,h5,hw,hz,rfl⟩
  · refine (words_word n wn rb t r0 w hr).mono ?_
    rintro e w' ⟨rfl,hx,hg⟩
    have htl := trimLen_le [n] 1
    exact ⟨⟨rb,t,_,_,[n],rfl,hx,by simpa using htl,by omega,Words.cons wn Words.nil,by rw [val_trim [n] 1 (by simp)]; simp [val],.inl rfl⟩,hg⟩
  · refine (words_many b len cap _ w).mono ?_
    rintro e w' ⟨rfl,hb⟩
    have k := ha.lt
    have ha' := ha.below hB k
    exact ⟨⟨b,s,len,cap,l,rfl,ha'.below hb ha'.lt,by omega,len_le hw (by omega) (by omega) hz hn,hw,rfl,.inr k⟩,grownBy_below hb (Nat.le_refl _) _⟩
/-- What the first three variables hold behind a call. -/
theorem boxes3 {w w2 : World} {x1 x2 : Value} {p1 p2 : Option Addr} {m1 k1 m2 k2 : Nat} (hb : Below (((w.alloc (.cells #[x1,.slice p1 m1 k1] 26)).alloc (.cells #[x2,.slice p2 m2 k2] 26)).alloc (.cells #[.int .u64 0,.slice none 0 0] 26)).heap.size (((w.alloc (.cells #[x1,.slice p1 m1 k1] 26)).alloc (.cells #[x2,.slice p2 m2 k2] 26)).alloc (.cells #[.int .u64 0,.slice none 0 0] 26)) w2) :
    Var w2 w.heap.size x1 (.slice p1 m1 k1) ∧ Var w2 (w.heap.size + 1) x2 (.slice p2 m2 k2) ∧ Var w2 (w.heap.size + 1 + 1) (.int .u64 0) (.slice none 0 0) ∧ Below w.heap.size w w2 ∧ w.heap.size + 1 + 1 + 1 ≤ w2.heap.size := by
  have hs := hb.size
  simp only [World.size_alloc] at hs hb
  refine ⟨(((Var.new w w.heap.size _ _ _ _ rfl).alloc _).alloc _).below hb (by omega),((Var.new (w.alloc _) _ _ _ _ _ (by simp)).alloc _).below hb (by omega),(Var.new ((w.alloc _).alloc _) _ _ _ _ _ (by simp)).below hb (by omega),?_,hs⟩
  exact Below.trans (by go_grown) (hb.mono (by omega))
set_option maxRecDepth 100000 in
set_option maxHeartbeats 1000000 in
theorem sub_many (K : Nat) (hK : 1 ≤ K) (hK2 : K ≤ 4294967296) (b1 t1 n1 c1 : Nat) (l1 : List Int) (x2 : Int) (p2 : Option Addr) (m2 k2 : Nat) (m : Int) (w : World) (ha1 : Arr w b1 t1 .u64 l1) (hp1 : 2 ≤ n1) (hc1 : n1 ≤ c1) (hl1 : c1 ≤ l1.length) (hw1 : Words l1) (hz1 : l1.getD (n1 - 1) 0 ≠ 0)
    (h2 : IsNat w (.agg #[.int .u64 x2,.slice p2 m2 k2]) m) (hn : val (l1.take n1) < pw K) (hm : m ≤ val (l1.take n1)) :
    Calls Tryz.prog 54 #[.agg #[.int .u64 0,.slice (some ⟨b1,0,none⟩) n1 c1],.agg #[.int .u64 x2,.slice p2 m2 k2]] w (RetOne (val (l1.take n1) - m) w) := by
  have e1 := eqnil
  have hnK := len_le hw1 (by omega) (by omega) hz1 hn
  have hcmp := fun w' (hb : Below w.heap.size w w') => cmp_any (.agg #[.int .u64 0,.slice (some ⟨b1,0,none⟩) n1 c1]) (.agg #[.int .u64 x2,.slice p2 m2 k2]) (val (l1.take n1)) m w' (IsNat.below (.inr ⟨b1,t1,n1,c1,l1,rfl,ha1,hp1,hc1,hl1,by omega,hw1,hz1,rfl⟩) hb) (h2.below hb)
  have hd : ¬ cmpI (val (l1.take n1)) m < 0 := by unfold cmpI; rw [if_neg (by omega)]; split <;> omega
  obtain ⟨d,hdd⟩ : ∃ d,cmpI (val (l1.take n1)) m = d := ⟨_,rfl⟩
  rw [hdd] at hcmp hd
  clear hdd
  have k1 := ha1.lt
  go_enter Tryz.func54,Tryz.ntmps54
  go_wp2_with fail
  refine (hcmp _ (by go_grown)).mono ?_
  rintro e w2 ⟨rfl,hb2⟩
  obtain ⟨v0,v1,v2,hB2,hS⟩ := boxes3 hb2
  clear hcmp hb2
  have c00 := v0.c0
  have c01 := v0.c1
  have c10 := v1.c0
  have c11 := v1.c1
  have hS1 : w.heap.size < w2.heap.size := by omega
  have hS2 : w.heap.size + 1 < w2.heap.size := by omega
  have hS3 : w.heap.size + 1 + 1 < w2.heap.size := by omega
  go_wp2_with fail
  have r3 : Arr (w2.alloc (.cells #[.int .u64 0] 121)) w2.heap.size 121 .u64 [0] := Arr.new _ _ _ [0] _ rfl
  refine (clone_any b1 t1 n1 c1 l1 _ ((ha1.below hB2 k1).alloc _) (by omega) (by omega) (by omega)).mono ?_
  rintro e w3 ⟨g,cap,kz,rfl,hz,hcap,hg,hb3⟩
  have hS3' := hb3.size
  rw [World.size_alloc] at hS3' hg hb3
  replace r3 := r3.below hb3 (by omega)
  replace v0 := (v0.alloc (.cells #[.int .u64 0] 121)).below hb3 (by omega)
  replace v1 := (v1.alloc (.cells #[.int .u64 0] 121)).below hb3 (by omega)
  replace v2 := (v2.alloc (.cells #[.int .u64 0] 121)).below hb3 (by omega)
  have hB3 : Below w.heap.size w w3 := (hB2.alloc (by omega) _).trans (hb3.mono (by omega))
  have g2 := h2.below hB3
  clear c00 c01 c10 c11 hb3 hS1 hS2
  have c00 := v0.c0
  have c01 := v0.c1
  have c10 := v1.c0
  have c11 := v1.c1
  go_wp2_with fail
  have hb1 := (val_bd (hw1.take n1)).2
  rw [List.length_take,Nat.min_eq_left (by omega)] at hb1
  refine (words_at n1 (by omega) _ m w2.heap.size 121 0 w w3 h2 hB3 (by omega) r3).mono ?_
  rintro e w4 ⟨⟨b2,t2,len2,cap2,l2,rfl,hx,hx1,hx2,hw2,hv2,hbx⟩,hg4⟩
  have hz4 := hz.grown hg4 (by simp; omega)
  have hzl := hz.lt
  have hS4 := hg4.size
  replace v0 := v0.grown hg4 (by simp; omega)
  replace v1 := v1.grown hg4 (by simp; omega)
  replace v2 := v2.grown hg4 (by simp; omega)
  have hB4 : Below w.heap.size w w4 := Below.ofGrown hB3 hg4 (by omega) (by omega)
  have hll : (l1.take n1 ++ List.replicate kz 0).length = n1 + kz := by simp; omega
  have hww : Words (l1.take n1 ++ List.replicate kz 0) := (hw1.take n1).append (Words.replicate kz)
  have hsg : seg (l1.take n1 ++ List.replicate kz 0) 0 n1 = val (l1.take n1) := by
    rw [seg_all,List.take_append_of_le_length (by simp; omega),List.take_of_length_le (by simp; omega)]
  have hsx : seg l2 0 len2 = m := by rw [seg_all,hv2]
  clear c00 c01 c10 c11 hz g2 r3
  have c00 := v0.c0
  have c01 := v0.c1
  go_wp2_with fail
  refine (subFrom_any g 0 n1 (n1 + kz) b2 0 len2 cap2 23 t2 _ l2 w4 hz4 hx (by omega) (by rw [hll]; omega) (by omega) hx2 (by omega) hww hw2 (by rw [hsg,hsx]; exact hm)).mono ?_
  rintro e w5 ⟨rfl,hsub⟩
  obtain ⟨_,lk,hak,hlk,hwk,_,hval,hg5⟩ := hsub
  rw [hsg,hsx,seg_all,Int.zero_mul,Int.add_zero] at hval
  replace v0 := v0.grown hg5 (by simp; omega)
  replace v1 := v1.grown hg5 (by simp; omega)
  replace v2 := v2.grown hg5 (by simp; omega)
  have hB5 : Below w.heap.size w w5 := Below.ofGrown hB4 hg5 (by omega) (by omega)
  have hS5 := hg5.size
  clear c00 c01
  have c20 := v2.c0
  have c21 := v2.c1
  go_wp2_with fail
  refine (made_any g 23 n1 (n1 + kz) lk w5 hak (by omega) (by rw [hlk,hll]; omega) (by omega) hwk).mono ?_
  rintro e w6 ⟨v,rfl,hv,hb6⟩
  obtain ⟨xa,xp,xl,xc,rfl⟩ := hv.shape
  replace v2 := v2.below hb6 (by omega)
  have hB6 : Below w.heap.size w w6 := hB5.trans (hb6.mono (by omega))
  rw [show val (lk.take n1) = val (l1.take n1) - m by omega] at hv
  clear c20 c21
  have c20 := v2.c0
  have c21 := v2.c1
  have f20 := v2.free 0
  have f21 := v2.free 1
  go_wp2
  exact bodyPost_one Tryz.results54 rfl rfl rfl (v2.set _ _ _ _) (hv.two v2 _ _) (below_two hB6 (by omega) _ _)
theorem sub_words (n m : Int) (hn : Word n) (hm : Word m) (hle : m ≤ n) (w : World) :
    Calls Tryz.prog 54 #[.agg #[.int .u64 n,.slice none 0 0],.agg #[.int .u64 m,.slice none 0 0]] w (RetOne (n - m) w) := by
  have e1 := eqnil
  have hcmp := fun w' => cmp_any (.agg #[.int .u64 n,.slice none 0 0]) (.agg #[.int .u64 m,.slice none 0 0]) n m w' (IsNat.word hn) (IsNat.word hm)
  have hd : ¬ cmpI n m < 0 := by unfold cmpI; rw [if_neg (by omega)]; split <;> omega
  obtain ⟨d,hdd⟩ : ∃ d,cmpI n m = d := ⟨_,rfl⟩
  rw [hdd] at hcmp hd
  clear hdd
  have hwr : IntKind.u64.wrap (n - m) = n - m := by rw [IntKind.wrap_u64]; unfold Word at hn hm; omega
  have hwd : Word (n - m) := by unfold Word at hn hm ⊢; omega
  go_enter Tryz.func54,Tryz.ntmps54
  go_wp2_with fail
  refine (hcmp _).mono ?_
  rintro e w2 ⟨rfl,hb2⟩
  obtain ⟨v0,v1,v2,hB2,hS⟩ := boxes3 hb2
  clear hcmp hb2
  have c00 := v0.c0
  have c01 := v0.c1
  have c10 := v1.c0
  have c11 := v1.c1
  have c20 := v2.c0
  have c21 := v2.c1
  have f20 := v2.free 0
  have f21 := v2.free 1
  go_wp2_with fail
  exact bodyPost_one Tryz.results54 rfl rfl rfl (v2.set _ _ _ _) ((IsNat.word hwd).two v2 _ _) (below_two hB2 (by omega) _ _)
theorem sub_any (K : Nat) (hK : 1 ≤ K) (hK2 : K ≤ 4294967296) (v1 v2 : Value) (n m : Int) (w : World) (h1 : IsNat w v1 n) (h2 : IsNat w v2 m) (hn : n < pw K) (hm : m ≤ n) :
    Calls Tryz.prog 54 #[v1,v2] w (RetOne (n - m) w) := by
  rcases h1 with ⟨wn,rfl⟩ | ⟨b1,t1,n1,c1,l1,rfl,ha1,hp1,hc1,hl1,hb1,hw1,hz1,rfl⟩
  · have h0 := h2.nonneg
    have := h2.one (by unfold Word at wn; omega)
    subst this
    exact sub_words n m wn ⟨h0,by unfold Word at wn; omega⟩ hm w
  · obtain ⟨x2,q2,m2,k2,rfl⟩ := h2.shape
    exact sub_many K hK hK2 b1 t1 n1 c1 l1 x2 q2 m2 k2 m w ha1 hp1 hc1 hl1 hw1 hz1 h2 hn hm
end Go.Proofs.YtgccgacpifebbaaGreatDoor
