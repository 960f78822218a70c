/- Numbers stored into variables of two cells, and the results that are read out of them. -/
import Derived.Test.YtjaepdjidfhamaaDoorRoot0
namespace Go.Proofs.YtjaepdjidfhamaaDoor
open Go.RowKit
set_option linter.unusedVariables false

/-- Block c is the variable of a number. -/
def Var (w : World) (c : Nat) (x y : Value) : Prop := w.heap[c]? = some (.cells #[x, y] 25 (0, 0)) ∧ ∃ p l q, y = .slice p l q
theorem Var.lt {w : World} {c : Nat} {x y : Value} (h : Var w c x y) : c < w.heap.size := (Array.getElem?_eq_some_iff.1 h.1).1
theorem Var.c0 {w : World} {c : Nat} {x y : Value} (h : Var w c x y) : w.cell? ⟨c, 0, none⟩ = some x := by rw [cell_of_row w c 0 _ _ (0, 0) h.1]; rfl
theorem Var.c1 {w : World} {c : Nat} {x y : Value} (h : Var w c x y) : w.cell? ⟨c, 1, none⟩ = some y := by rw [cell_of_row w c 1 _ _ (0, 0) h.1]; rfl
theorem Var.free {w : World} {c : Nat} {x y : Value} (h : Var w c x y) (i : Nat) : w.frozen? ⟨c, i, none⟩ = false := frozen_of_row w c i _ _ h.1
theorem Var.below {w w' : World} {B c : Nat} {x y : Value} (h : Var w c x y) (hb : Below B w w') (hB : c < B) : Var w' c x y := ⟨(hb.block c hB).trans h.1, h.2⟩
theorem Var.grown {w w' : World} {row : Option Nat} {c : Nat} {x y : Value} (h : Var w c x y) (hg : w.grownBy w' row) (hr : some c ≠ row) : Var w' c x y := ⟨(hg.block c h.lt hr).trans h.1, h.2⟩
theorem Var.alloc {w : World} {c : Nat} {x y : Value} (h : Var w c x y) (o : Obj) : Var (w.alloc o) c x y := ⟨(heap_old w o c h.lt).trans h.1, h.2⟩
theorem Var.drewN {w : World} {c : Nat} {x y : Value} (h : Var w c x y) (n : Nat) : Var (w.drewN n) c x y := h
theorem Var.drew {w : World} {c : Nat} {x y : Value} (h : Var w c x y) : Var w.drew c x y := h
theorem Var.new (w : World) (c : Nat) (x : Value) (p : Option Addr) (l q : Nat) (hc : c = w.heap.size) : Var (w.alloc (.cells #[x, .slice p l q] 25)) c x (.slice p l q) := ⟨heap_new w _ c hc, _, _, _, rfl⟩
theorem Var.set {w : World} {c : Nat} {x y : Value} (h : Var w c x y) (x' : Value) (p : Option Addr) (l q : Nat) : Var ((w.setCell ⟨c, 0, none⟩ x').setCell ⟨c, 1, none⟩ (.slice p l q)) c x' (.slice p l q) := by
  have h1 := heap_setCell_same w c 0 _ _ x' h.1
  have h2 := heap_setCell_same _ c 1 _ _ (.slice p l q) h1
  exact ⟨h2, _, _, _, rfl⟩
theorem Var.other {w : World} {c d i : Nat} {x y : Value} (h : Var w c x y) (hd : c ≠ d) (v : Value) : Var (w.setCell ⟨d, i, none⟩ v) c x y := ⟨(heap_setCell_other w ⟨d, i, none⟩ c v hd).trans h.1, h.2⟩
theorem Arr.neVar {w : World} {b c : Nat} {t : TypeId} {k : IntKind} {l : List Int} {x y : Value} (ha : Arr w b t k l) (h : Var w c x y) : b ≠ c := by
  obtain ⟨p, m, q, rfl⟩ := h.2
  exact ha.ne_slice h.c1
/-- A number stays what it is while a variable is written. -/
theorem IsNat.two {w : World} {v : Value} {n : Int} {c : Nat} {x y : Value} (h : IsNat w v n) (hc : Var w c x y) (x' y' : Value) : IsNat ((w.setCell ⟨c, 0, none⟩ x').setCell ⟨c, 1, none⟩ y') v n := by
  obtain ⟨p, m, q, rfl⟩ := hc.2
  exact h.stored hc.c1 x' y'
theorem IsNat.drewN {w : World} {v : Value} {n : Int} (h : IsNat w v n) (k : Nat) : IsNat (w.drewN k) v n := h
theorem below_two {B : Nat} {a w : World} (h : Below B a w) {c : Nat} (hc : B ≤ c) (x y : Value) : Below B a ((w.setCell ⟨c, 0, none⟩ x).setCell ⟨c, 1, none⟩ y) := (h.setCell (p := ⟨c, 0, none⟩) hc x).setCell (p := ⟨c, 1, none⟩) hc y

/-- Two numbers and true are answered. -/
def RetDiv (q r : Int) (w : World) (e : Ending) (w' : World) : Prop := ∃ v1 v2, e = .returned (.tuple #[v1, v2, .bool true]) ∧ IsNat w' v1 q ∧ IsNat w' v2 r ∧ Below w.heap.size w w'
/-- Two numbers are answered. -/
def RetTwo (q r : Int) (w : World) (e : Ending) (w' : World) : Prop := ∃ v1 v2, e = .returned (.tuple #[v1, v2]) ∧ IsNat w' v1 q ∧ IsNat w' v2 r ∧ Below w.heap.size w w'
/-- A number and true are answered. -/
def RetOne (q : Int) (w : World) (e : Ending) (w' : World) : Prop := ∃ v1, e = .returned (.tuple #[v1, .bool true]) ∧ IsNat w' v1 q ∧ Below w.heap.size w w'

theorem run_loadVar_nat {w : World} {c : Nat} {x y : Value} (h : Var w c x y) : (loadVar 25 ⟨c, 0, none⟩).run Tryd.prog w = .ok (.agg #[x, y]) w :=
  run_loadVar_row w c _ 25 #[x, y] (0, 0) _ h.1 Tryd.underlying25 rfl (by kernel_rfl)

theorem bodyPost_div {fn : Func} {p q s : Tmp} (h : fn.results = #[.cell p 25, .cell q 25, .tmp s]) {w w' : World} {a : Act} {x y u v : Value} {Q R : Int} {c d : Nat} (hd : a.defers = [])
    (hp : a.tmps.getD p undef = .pointer (some ⟨c, 0, none⟩)) (hq : a.tmps.getD q undef = .pointer (some ⟨d, 0, none⟩)) (hs : a.tmps.getD s undef = .bool true) (hc : Var w' c x y) (hd' : Var w' d u v)
    (h1 : IsNat w' (.agg #[x, y]) Q) (h2 : IsNat w' (.agg #[u, v]) R) (hB : Below w.heap.size w w') : bodyPost Tryd.prog fn (RetDiv Q R w) .ret a w' := by
  refine bodyPost_ret (v := .tuple #[.agg #[x, y], .agg #[u, v], .bool true]) ?_ hd ⟨_, _, rfl, h1, h2, hB⟩
  have hp' : a.tmps[p]?.getD undef = .pointer (some ⟨c, 0, none⟩) := by simpa using hp
  have hq' : a.tmps[q]?.getD undef = .pointer (some ⟨d, 0, none⟩) := by simpa using hq
  have hs' : a.tmps[s]?.getD undef = .bool true := by simpa using hs
  simp [results, h, hp', hq', hs', asAddr, run_loadVar_nat hc, run_loadVar_nat hd']
theorem bodyPost_two {fn : Func} {p q : Tmp} (h : fn.results = #[.cell p 25, .cell q 25]) {w w' : World} {a : Act} {x y u v : Value} {Q R : Int} {c d : Nat} (hd : a.defers = [])
    (hp : a.tmps.getD p undef = .pointer (some ⟨c, 0, none⟩)) (hq : a.tmps.getD q undef = .pointer (some ⟨d, 0, none⟩)) (hc : Var w' c x y) (hd' : Var w' d u v)
    (h1 : IsNat w' (.agg #[x, y]) Q) (h2 : IsNat w' (.agg #[u, v]) R) (hB : Below w.heap.size w w') : bodyPost Tryd.prog fn (RetTwo Q R w) .ret a w' := by
  refine bodyPost_ret (v := .tuple #[.agg #[x, y], .agg #[u, v]]) ?_ hd ⟨_, _, rfl, h1, h2, hB⟩
  have hp' : a.tmps[p]?.getD undef = .pointer (some ⟨c, 0, none⟩) := by simpa using hp
  have hq' : a.tmps[q]?.getD undef = .pointer (some ⟨d, 0, none⟩) := by simpa using hq
  simp [results, h, hp', hq', asAddr, run_loadVar_nat hc, run_loadVar_nat hd']
theorem bodyPost_one {fn : Func} {p s : Tmp} (h : fn.results = #[.cell p 25, .tmp s]) {w w' : World} {a : Act} {x y : Value} {Q : Int} {c : Nat} (hd : a.defers = [])
    (hp : a.tmps.getD p undef = .pointer (some ⟨c, 0, none⟩)) (hs : a.tmps.getD s undef = .bool true) (hc : Var w' c x y)
    (h1 : IsNat w' (.agg #[x, y]) Q) (hB : Below w.heap.size w w') : bodyPost Tryd.prog fn (RetOne Q w) .ret a w' := by
  refine bodyPost_ret (v := .tuple #[.agg #[x, y], .bool true]) ?_ hd ⟨_, rfl, h1, hB⟩
  have hp' : a.tmps[p]?.getD undef = .pointer (some ⟨c, 0, none⟩) := by simpa using hp
  have hs' : a.tmps[s]?.getD undef = .bool true := by simpa using hs
  simp [results, h, hp', hs', asAddr, run_loadVar_nat hc]
theorem bodyPost_var {fn : Func} {p : Tmp} (h : fn.results = #[.cell p 25]) {w w' : World} {a : Act} {x y : Value} {Q : Int} {c : Nat} (hd : a.defers = [])
    (hp : a.tmps.getD p undef = .pointer (some ⟨c, 0, none⟩)) (hc : Var w' c x y) (h1 : IsNat w' (.agg #[x, y]) Q) (hB : Below w.heap.size w w') : bodyPost Tryd.prog fn (RetNat Q w) .ret a w' := by
  refine bodyPost_ret (v := .agg #[x, y]) ?_ hd ⟨_, rfl, h1, hB⟩
  have hp' : a.tmps[p]?.getD undef = .pointer (some ⟨c, 0, none⟩) := by simpa using hp
  simp [results, h, hp', asAddr, run_loadVar_nat hc]
/-- One call more: what lay below B lies there still. -/
theorem below_acc {B : Nat} {a b c : World} (h : Below B a b) (hB : B ≤ b.heap.size) (k : Below b.heap.size b c) : Below B a c := h.trans (k.mono hB)
theorem below_accD {B : Nat} {a b c : World} (h : Below B a b) (hB : B ≤ b.heap.size) (k : Below b.drew.heap.size b.drew c) : Below B a c := h.trans ((⟨k.os, k.tape, k.output, k.size, k.block⟩ : Below b.heap.size b c).mono hB)
end Go.Proofs.YtjaepdjidfhamaaDoor
