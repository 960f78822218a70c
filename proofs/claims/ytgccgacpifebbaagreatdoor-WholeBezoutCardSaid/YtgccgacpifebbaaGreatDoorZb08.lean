/- Known -/
import Derived.Test.YtgccgacpifebbaaGreatDoorZb07
import Derived.Deep.RegionWith
import Derived.Deep.RegionHeld3
namespace Go.Proofs.YtgccgacpifebbaaGreatDoor
open Go.RowKit
set_option linter.unusedVariables false
theorem iformat_small (n : Nat) (hn : n < 100) (w : World) :
    Calls Tryz.prog 89 #[.int .u64 n,.int .i64 10] w fun e w' => e = .returned (.string ⟨(Lib.decDigits n).toArray⟩) ∧ w = w' := by
  have h1 : ((n : Int) < 100) := by omega
  go_enter Tryz.func89,Tryz.ntmps89
  go_wp2_with (go_at_call 113; refine (Tryz.internal_strconv_small n hn _).mono ?_; rintro e w' ⟨rfl,rfl⟩)
  go_ret
  exact ⟨rfl,rfl⟩
theorem format_small (n : Nat) (hn : n < 100) (w : World) :
    Calls Tryz.prog 59 #[.int .u64 n,.int .i64 10] w fun e w' => e = .returned (.string ⟨(Lib.decDigits n).toArray⟩) ∧ w = w' := by
  go_enter Tryz.func59,Tryz.ntmps59
  go_wp2_with (go_at_call 89; refine (iformat_small n hn _).mono ?_; rintro e w' ⟨rfl,rfl⟩)
  go_ret
  exact ⟨rfl,rfl⟩
theorem text_small (n : Nat) (hn : n < 100) (w : World) :
    Calls Tryz.prog 27 #[.agg #[.int .u64 n,.slice none 0 0]] w fun e w' => e = .returned (.string ⟨(Lib.decDigits n).toArray⟩) ∧ Below w.heap.size w w' := by
  have e1 := eqnil
  go_enter Tryz.func27,Tryz.ntmps27
  go_wp2_with (go_at_call 59; refine (format_small n hn _).mono ?_; rintro e w' ⟨rfl,rfl⟩)
  go_ret
  exact ⟨rfl,by go_grown⟩
end Go.Proofs.YtgccgacpifebbaaGreatDoor
namespace Go.Proofs.YtgccgacpifebbaaGreatDoor
open Go.RowKit
set_option linter.unusedVariables false
/-- Block c is the variable of a number. -/
def Var (w : World) (c : Nat) (x y : Value) : Prop := w.heap[c]? = some (.cells #[x,y] 26 (0,0)) ∧ ∃ p l q,y = .slice p l q
theorem Var.lt {w : World} {c : Nat} {x y : Value} (h : Var w c x y) : c < w.heap.size := (Array.getElem?_eq_some_iff.1 h.1).1
theorem Var.c0 {w : World} {c : Nat} {x y : Value} (h : Var w c x y) : w.cell? ⟨c,0,none⟩ = some x := by rw [cell_of_row w c 0 _ _ (0,0) h.1]; rfl
theorem Var.c1 {w : World} {c : Nat} {x y : Value} (h : Var w c x y) : w.cell? ⟨c,1,none⟩ = some y := by rw [cell_of_row w c 1 _ _ (0,0) h.1]; rfl
theorem Var.free {w : World} {c : Nat} {x y : Value} (h : Var w c x y) (i : Nat) : w.frozen? ⟨c,i,none⟩ = false := frozen_of_row w c i _ _ h.1
theorem Var.below {w w' : World} {B c : Nat} {x y : Value} (h : Var w c x y) (hb : Below B w w') (hB : c < B) : Var w' c x y := ⟨(hb.block c hB).trans h.1,h.2⟩
theorem Var.grown {w w' : World} {row : Option Nat} {c : Nat} {x y : Value} (h : Var w c x y) (hg : w.grownBy w' row) (hr : some c ≠ row) : Var w' c x y := ⟨(hg.block c h.lt hr).trans h.1,h.2⟩
theorem Var.alloc {w : World} {c : Nat} {x y : Value} (h : Var w c x y) (o : Obj) : Var (w.alloc o) c x y := ⟨(heap_old w o c h.lt).trans h.1,h.2⟩
theorem Var.drewN {w : World} {c : Nat} {x y : Value} (h : Var w c x y) (n : Nat) : Var (w.drewN n) c x y := h
theorem Var.drew {w : World} {c : Nat} {x y : Value} (h : Var w c x y) : Var w.drew c x y := h
theorem Var.new (w : World) (c : Nat) (x : Value) (p : Option Addr) (l q : Nat) (hc : c = w.heap.size) : Var (w.alloc (.cells #[x,.slice p l q] 26)) c x (.slice p l q) := ⟨heap_new w _ c hc,_,_,_,rfl⟩
theorem Var.set {w : World} {c : Nat} {x y : Value} (h : Var w c x y) (x' : Value) (p : Option Addr) (l q : Nat) : Var ((w.setCell ⟨c,0,none⟩ x').setCell ⟨c,1,none⟩ (.slice p l q)) c x' (.slice p l q) := by
  have h1 := heap_setCell_same w c 0 _ _ x' h.1
  have h2 := heap_setCell_same _ c 1 _ _ (.slice p l q) h1
  exact ⟨h2,_,_,_,rfl⟩
theorem Var.other {w : World} {c d i : Nat} {x y : Value} (h : Var w c x y) (hd : c ≠ d) (v : Value) : Var (w.setCell ⟨d,i,none⟩ v) c x y := ⟨(heap_setCell_other w ⟨d,i,none⟩ c v hd).trans h.1,h.2⟩
theorem Arr.neVar {w : World} {b c : Nat} {t : TypeId} {k : IntKind} {l : List Int} {x y : Value} (ha : Arr w b t k l) (h : Var w c x y) : b ≠ c := by
  obtain ⟨p,m,q,rfl⟩ := h.2
  exact ha.ne_slice h.c1
/-- A number stays what it is while a variable is written. -/
theorem IsNat.two {w : World} {v : Value} {n : Int} {c : Nat} {x y : Value} (h : IsNat w v n) (hc : Var w c x y) (x' y' : Value) : IsNat ((w.setCell ⟨c,0,none⟩ x').setCell ⟨c,1,none⟩ y') v n := by
  obtain ⟨p,m,q,rfl⟩ := hc.2
  exact h.stored hc.c1 x' y'
theorem IsNat.drewN {w : World} {v : Value} {n : Int} (h : IsNat w v n) (k : Nat) : IsNat (w.drewN k) v n := h
theorem below_two {B : Nat} {a w : World} (h : Below B a w) {c : Nat} (hc : B ≤ c) (x y : Value) : Below B a ((w.setCell ⟨c,0,none⟩ x).setCell ⟨c,1,none⟩ y) := (h.setCell (p := ⟨c,0,none⟩) hc x).setCell (p := ⟨c,1,none⟩) hc y
/-- Two numbers and true are answered. -/
def RetDiv (q r : Int) (w : World) (e : Ending) (w' : World) : Prop := ∃ v1 v2,e = .returned (.tuple #[v1,v2,.bool true]) ∧ IsNat w' v1 q ∧ IsNat w' v2 r ∧ Below w.heap.size w w'
/-- Two numbers are answered. -/
def RetTwo (q r : Int) (w : World) (e : Ending) (w' : World) : Prop := ∃ v1 v2,e = .returned (.tuple #[v1,v2]) ∧ IsNat w' v1 q ∧ IsNat w' v2 r ∧ Below w.heap.size w w'
/-- A number and true are answered. -/
def RetOne (q : Int) (w : World) (e : Ending) (w' : World) : Prop := ∃ v1,e = .returned (.tuple #[v1,.bool true]) ∧ IsNat w' v1 q ∧ Below w.heap.size w w'
theorem run_loadVar_nat {w : World} {c : Nat} {x y : Value} (h : Var w c x y) : (loadVar 26 ⟨c,0,none⟩).run Tryz.prog w = .ok (.agg #[x,y]) w :=
  run_loadVar_row w c _ 26 #[x,y] (0,0) _ h.1 Tryz.underlying26 rfl (by kernel_rfl)
theorem bodyPost_div {fn : Func} {p q s : Tmp} (h : fn.results = #[.cell p 26,.cell q 26,.tmp s]) {w w' : World} {a : Act} {x y u v : Value} {Q R : Int} {c d : Nat} (hd : a.defers = [])
    (hp : a.tmps.getD p undef = .pointer (some ⟨c,0,none⟩)) (hq : a.tmps.getD q undef = .pointer (some ⟨d,0,none⟩)) (hs : a.tmps.getD s undef = .bool true) (hc : Var w' c x y) (hd' : Var w' d u v)
    (h1 : IsNat w' (.agg #[x,y]) Q) (h2 : IsNat w' (.agg #[u,v]) R) (hB : Below w.heap.size w w') : bodyPost Tryz.prog fn (RetDiv Q R w) .ret a w' := by
  refine bodyPost_ret (v := .tuple #[.agg #[x,y],.agg #[u,v],.bool true]) ?_ hd ⟨_,_,rfl,h1,h2,hB⟩
  have hp' : a.tmps[p]?.getD undef = .pointer (some ⟨c,0,none⟩) := by simpa using hp
  have hq' : a.tmps[q]?.getD undef = .pointer (some ⟨d,0,none⟩) := by simpa using hq
  have hs' : a.tmps[s]?.getD undef = .bool true := by simpa using hs
  simp [results,h,hp',hq',hs',asAddr,run_loadVar_nat hc,run_loadVar_nat hd']
theorem bodyPost_two {fn : Func} {p q : Tmp} (h : fn.results = #[.cell p 26,.cell q 26]) {w w' : World} {a : Act} {x y u v : Value} {Q R : Int} {c d : Nat} (hd : a.defers = [])
    (hp : a.tmps.getD p undef = .pointer (some ⟨c,0,none⟩)) (hq : a.tmps.getD q undef = .pointer (some ⟨d,0,none⟩)) (hc : Var w' c x y) (hd' : Var w' d u v)
    (h1 : IsNat w' (.agg #[x,y]) Q) (h2 : IsNat w' (.agg #[u,v]) R) (hB : Below w.heap.size w w') : bodyPost Tryz.prog fn (RetTwo Q R w) .ret a w' := by
  refine bodyPost_ret (v := .tuple #[.agg #[x,y],.agg #[u,v]]) ?_ hd ⟨_,_,rfl,h1,h2,hB⟩
  have hp' : a.tmps[p]?.getD undef = .pointer (some ⟨c,0,none⟩) := by simpa using hp
  have hq' : a.tmps[q]?.getD undef = .pointer (some ⟨d,0,none⟩) := by simpa using hq
  simp [results,h,hp',hq',asAddr,run_loadVar_nat hc,run_loadVar_nat hd']
theorem bodyPost_one {fn : Func} {p s : Tmp} (h : fn.results = #[.cell p 26,.tmp s]) {w w' : World} {a : Act} {x y : Value} {Q : Int} {c : Nat} (hd : a.defers = [])
    (hp : a.tmps.getD p undef = .pointer (some ⟨c,0,none⟩)) (hs : a.tmps.getD s undef = .bool true) (hc : Var w' c x y)
    (h1 : IsNat w' (.agg #[x,y]) Q) (hB : Below w.heap.size w w') : bodyPost Tryz.prog fn (RetOne Q w) .ret a w' := by
  refine bodyPost_ret (v := .tuple #[.agg #[x,y],.bool true]) ?_ hd ⟨_,rfl,h1,hB⟩
  have hp' : a.tmps[p]?.getD undef = .pointer (some ⟨c,0,none⟩) := by simpa using hp
  have hs' : a.tmps[s]?.getD undef = .bool true := by simpa using hs
  simp [results,h,hp',hs',asAddr,run_loadVar_nat hc]
theorem bodyPost_var {fn : Func} {p : Tmp} (h : fn.results = #[.cell p 26]) {w w' : World} {a : Act} {x y : Value} {Q : Int} {c : Nat} (hd : a.defers = [])
    (hp : a.tmps.getD p undef = .pointer (some ⟨c,0,none⟩)) (hc : Var w' c x y) (h1 : IsNat w' (.agg #[x,y]) Q) (hB : Below w.heap.size w w') : bodyPost Tryz.prog fn (RetNat Q w) .ret a w' := by
  refine bodyPost_ret (v := .agg #[x,y]) ?_ hd ⟨_,rfl,h1,hB⟩
  have hp' : a.tmps[p]?.getD undef = .pointer (some ⟨c,0,none⟩) := by simpa using hp
  simp [results,h,hp',asAddr,run_loadVar_nat hc]
/-- One call more: what lay below B lies there still. -/
theorem below_acc {B : Nat} {a b c : World} (h : Below B a b) (hB : B ≤ b.heap.size) (k : Below b.heap.size b c) : Below B a c := h.trans (k.mono hB)
theorem below_accD {B : Nat} {a b c : World} (h : Below B a b) (hB : B ≤ b.heap.size) (k : Below b.drew.heap.size b.drew c) : Below B a c := h.trans ((⟨k.os,k.tape,k.output,k.size,k.block⟩ : Below b.heap.size b c).mono hB)
end Go.Proofs.YtgccgacpifebbaaGreatDoor
namespace Go.Proofs.YtgccgacpifebbaaGreatDoor
open Go.RowKit
set_option linter.unusedVariables false
theorem bits_nz {m : Int} (h : Word m) (hm : m ≠ 0) : (((Lib.bitLen m.toNat : Nat) : Int) == 0) = false := by
  have := Lib.bitLenAux_bounds 64 m.toNat (by unfold Word at h; omega) (by unfold Word at h; omega)
  have h2 : 1 ≤ Lib.bitLen m.toNat := this.1
  simp; omega
/-- The boxes of Div: both numbers and both results. -/
structure Boxes (w w2 : World) (x0 y0 x1 y1 x2 y2 x3 y3 : Value) : Prop where
  v0 : Var w2 w.heap.size x0 y0
  v1 : Var w2 (w.heap.size + 1) x1 y1
  v2 : Var w2 (w.heap.size + 1 + 1) x2 y2
  v3 : Var w2 (w.heap.size + 1 + 1 + 1) x3 y3
  below : Below w.heap.size w w2
theorem boxes {w w2 : World} {x0 x1 x2 x3 : Value} {p0 p1 p2 p3 : Option Addr} {l0 l1 l2 l3 q0 q1 q2 q3 : Nat}
    (hb : Below (w.heap.size + 1 + 1 + 1 + 1) ((((w.alloc (.cells #[x0,.slice p0 l0 q0] 26)).alloc (.cells #[x1,.slice p1 l1 q1] 26)).alloc (.cells #[x2,.slice p2 l2 q2] 26)).alloc (.cells #[x3,.slice p3 l3 q3] 26)) w2) :
    Boxes w w2 x0 (.slice p0 l0 q0) x1 (.slice p1 l1 q1) x2 (.slice p2 l2 q2) x3 (.slice p3 l3 q3) :=
  ⟨((((Var.new w _ x0 p0 l0 q0 rfl).alloc _).alloc _).alloc _).below hb (by omega),(((Var.new _ _ x1 p1 l1 q1 (by simp)).alloc _).alloc _).below hb (by omega),
   ((Var.new _ _ x2 p2 l2 q2 (by simp)).alloc _).below hb (by omega),(Var.new _ _ x3 p3 l3 q3 (by simp)).below hb (by omega),
   Below.trans (by go_grown) (hb.mono (by omega))⟩
set_option maxRecDepth 100000 in
set_option maxHeartbeats 2000000 in
theorem div_above (n m : Int) (hn : Word n) (hm : Word m) (hm0 : m ≠ 0) (hlt : ¬ n < m) (w : World) :
    Calls Tryz.prog 50 #[.agg #[.int .u64 n,.slice none 0 0],.agg #[.int .u64 m,.slice none 0 0]] w (RetDiv (n / m) (n % m) w) := by
  have e1 := eqnil
  have hz := bits_nz hm hm0
  have hc := fun w => cmp_any (.agg #[.int .u64 n,.slice none 0 0]) (.agg #[.int .u64 m,.slice none 0 0]) n m w (IsNat.word hn) (IsNat.word hm)
  have hd : ¬ cmpI n m < 0 := by unfold cmpI; rw [if_neg hlt]; split <;> omega
  obtain ⟨d,hdd⟩ : ∃ d,cmpI n m = d := ⟨_,rfl⟩
  rw [hdd] at hc hd
  clear hdd
  go_enter Tryz.func50,Tryz.ntmps50
  go_wp2_with (first | (go_at_call 55; refine (bits_word m hm _).mono ?_; rintro e w1 ⟨rfl,hb1⟩; obtain ⟨hc1,hf1⟩ := bcell hb1) | (go_at_call 24; refine (hc _).mono ?_; rintro e w2 ⟨rfl,hb2⟩; have hB2 := hb1.trans (hb2.mono hb1.size); obtain ⟨hc2,hf2⟩ := bcell hB2; clear hc1 hf1))
  clear hc2 hf2 hz hc
  obtain ⟨v0,v1,v2,v3,hB⟩ := boxes (w := w) (by simpa using hB2)
  clear hB2 hb1 hb2
  have z0 := v0.lt
  have z1 := v1.lt
  have z2 := v2.lt
  have z3 := v3.lt
  have acc := Below.refl w2.heap.size w2
  have d02 : w.heap.size ≠ w.heap.size + 1 + 1 := by omega
  have d03 : w.heap.size ≠ w.heap.size + 1 + 1 + 1 := by omega
  have d12 : w.heap.size + 1 ≠ w.heap.size + 1 + 1 := by omega
  have d13 : w.heap.size + 1 ≠ w.heap.size + 1 + 1 + 1 := by omega
  go_region_held3 (fun w' => w'.cell? ⟨w.heap.size,0,none⟩ = some (.int .u64 n) ∧ w'.cell? ⟨w.heap.size + 1,0,none⟩ = some (.int .u64 m))
    (first | with_reducible exact ⟨(v0.below acc z0).c0,(v1.below acc z1).c0⟩ | with_reducible exact ⟨(v0.below acc z0).drew.c0,(v1.below acc z1).drew.c0⟩ | with_reducible exact ⟨(((v0.below acc z0).other d02 _).other d02 _).c0,(((v1.below acc z1).other d12 _).other d12 _).c0⟩ | with_reducible exact ⟨(((((v0.below acc z0).other d02 _).other d02 _).other d03 _).other d03 _).c0,(((((v1.below acc z1).other d12 _).other d12 _).other d13 _).other d13 _).c0⟩)
    ((go_at_call 48; refine (of_any _ _).mono ?_; rintro e w3 ⟨rfl,hb3⟩; (first | replace acc := below_acc acc acc.size hb3 | replace acc := below_accD acc acc.size hb3); clear hb3; have c20 := (v2.below acc z2).c0; have c21 := (v2.below acc z2).c1; have c30 := (v3.below acc z3).c0; have c31 := (v3.below acc z3).c1; have f20 := (v2.below acc z2).free 0; have f21 := (v2.below acc z2).free 1; have f30 := (v3.below acc z3).free 0; have f31 := (v3.below acc z3).free 1))
  have hq : IntKind.u64.wrap (n.tdiv m) = n / m := by
    rw [Int.tdiv_eq_ediv_of_nonneg hn.1,IntKind.wrap_u64]
    have h1 := Int.ediv_nonneg hn.1 hm.1
    have h2 : n / m ≤ n := Int.ediv_le_self m hn.1
    unfold Word at hn
    omega
  have hr : n.tmod m = n % m := Int.tmod_eq_emod_of_nonneg hn.1
  rw [hq,hr]
  go_wp2
  have hmp : 0 < m := by unfold Word at hm; omega
  have h1 := Int.ediv_nonneg hn.1 hm.1
  have h2 : n / m ≤ n := Int.ediv_le_self m hn.1
  have h3 := Int.emod_nonneg n hm0
  have h4 := Int.emod_lt_of_pos n hmp
  exact bodyPost_div Tryz.results50 rfl rfl rfl rfl
    ((((v2.below acc z2).set (.int .u64 (n / m)) none 0 0).other (by omega) _).other (by omega) _)
    ((((v3.below acc z3).other (by omega) _).other (by omega) _).set _ none 0 0)
    (IsNat.word ⟨h1,by unfold Word at hn; omega⟩) (IsNat.word ⟨h3,by unfold Word at hm; omega⟩) (below_two (below_two (hB.trans (acc.mono hB.size)) (by omega) _ _) (by omega) _ _)
end Go.Proofs.YtgccgacpifebbaaGreatDoor
namespace Go.Proofs.YtgccgacpifebbaaGreatDoor
open Go.RowKit
set_option linter.unusedVariables false
theorem IsNat.one {w : World} {v : Value} {n : Int} (h : IsNat w v n) (hn : n < 18446744073709551616) : v = .agg #[.int .u64 n,.slice none 0 0] := by
  rcases h with h | ⟨b,t,len,cap,l,hv,ha,hp,hc,hl,hm,hw,hz,rfl⟩
  · exact h.2
  · have h1 := val_low hw (by omega) (by omega) hz
    have h2 := pw_mono (a := 1) (b := len - 1) (by omega)
    simp only [pw] at h2
    omega
theorem text_4 (w : World) : Calls Tryz.prog 27 #[.agg #[.int .u64 4,.slice none 0 0]] w fun e w' => e = .returned (.string ⟨#[52]⟩) ∧ Below w.heap.size w w' := by
  have h : Lib.decDigits 4 = [52] := by decide +kernel
  have := text_small 4 (by decide) w
  rw [h] at this
  exact this
theorem text_1 (w : World) : Calls Tryz.prog 27 #[.agg #[.int .u64 1,.slice none 0 0]] w fun e w' => e = .returned (.string ⟨#[49]⟩) ∧ Below w.heap.size w w' := by
  have h : Lib.decDigits 1 = [49] := by decide +kernel
  have := text_small 1 (by decide) w
  rw [h] at this
  exact this
end Go.Proofs.YtgccgacpifebbaaGreatDoor
