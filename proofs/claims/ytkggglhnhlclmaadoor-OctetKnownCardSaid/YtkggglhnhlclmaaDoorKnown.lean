/- Contract of nat.rootOfWord: the root of one word, bit by bit. Numbers stored into variables of two cells, and the results that are read out of them. Contract of (Nat).Div over one word by another. Contract of abaculuslaw1.known: chapter 1's examples hold. -/
import Derived.Test.YtkggglhnhlclmaaDoorCmp
import Derived.Deep.RegionWith
import Derived.Deep.RegionHeld3
namespace Go.Proofs.YtkggglhnhlclmaaDoor
open Go.RowKit
set_option linter.unusedVariables false

/-- The highest k bits of the root of N are those of r. -/
def RootAt (N k : Nat) (r : Int) : Prop := ∃ p q : Nat, p = 2 ^ (32 - k) ∧ r = ((q * p : Nat) : Int) ∧ q * p * (q * p) ≤ N ∧ N < (q * p + p) * (q * p + p) ∧ q * p + p ≤ 4294967296

theorem RootAt.more {N k : Nat} {v : Int} (h : RootAt N k v) (hk : k < 32) : ∃ a p q : Nat, p = 2 ^ (32 - (k + 1)) ∧ a = q * (2 * p) ∧ v = (a : Int) ∧ a * a ≤ N ∧ N < (a + 2 * p) * (a + 2 * p) ∧ a + 2 * p ≤ 4294967296 ∧ bits .or .u64 v (IntKind.u64.wrap (2 ^ (31 - k))) = ((a + p : Nat) : Int) ∧
    IntKind.u64.wrap (bits .or .u64 v (IntKind.u64.wrap (2 ^ (31 - k))) * bits .or .u64 v (IntKind.u64.wrap (2 ^ (31 - k)))) = (((a + p) * (a + p) : Nat) : Int) := by
  obtain ⟨p, q, hp, rfl, h2, h3, h4⟩ := h
  have e1 : 32 - k = (31 - k) + 1 := by omega
  have e2 : 32 - (k + 1) = 31 - k := by omega
  rw [e1, Nat.pow_succ] at hp
  have hp' : p = 2 * 2 ^ (31 - k) := by omega
  have hb : (2 : Nat) ^ (31 - k) ≤ 2147483648 := Nat.pow_le_pow_right (by decide) (by omega : 31 - k ≤ 31)
  have hpos : 0 < (2 : Nat) ^ (31 - k) := Nat.two_pow_pos _
  have hor : q * (2 * 2 ^ (31 - k)) ||| 2 ^ (31 - k) = q * (2 * 2 ^ (31 - k)) + 2 ^ (31 - k) := by
    have hpos : 0 < 2 ^ (31 - k) := Nat.two_pow_pos _
    have := Nat.two_pow_add_eq_or_of_lt (i := (31 - k) + 1) (b := 2 ^ (31 - k)) (by rw [Nat.pow_succ]; omega) q
    rw [Nat.pow_succ, Nat.mul_comm (2 ^ (31 - k)) 2, Nat.mul_comm _ q] at this
    exact this.symm
  have hw : IntKind.u64.wrap (2 ^ (31 - k)) = ((2 ^ (31 - k) : Nat) : Int) := by
    rw [IntKind.wrap_u64]
    have e : (2 : Int) ^ (31 - k) = ((2 ^ (31 - k) : Nat) : Int) := by simp
    rw [e]; omega
  generalize hpe : (2 : Nat) ^ (31 - k) = p' at *
  subst hp'
  generalize ha : q * (2 * p') = a at *
  have hbits : bits .or .u64 (a : Int) (IntKind.u64.wrap (2 ^ (31 - k))) = ((a + p' : Nat) : Int) := by
    rw [hw, u64_or_nat a p' (by omega) (by omega), hor]
  refine ⟨a, p', q, by rw [e2]; exact hpe.symm, ha.symm, rfl, h2, h3, h4, hbits, ?_⟩
  rw [hbits, IntKind.wrap_u64]
  have hlt : (a + p') * (a + p') < 4294967296 * 4294967296 := Nat.mul_lt_mul'' (by omega) (by omega)
  have e3 : ((a + p' : Nat) : Int) * ((a + p' : Nat) : Int) = (((a + p') * (a + p') : Nat) : Int) := by push_cast; rfl
  rw [e3]
  generalize (a + p') * (a + p') = z at *
  omega
theorem RootAt.yes {N k : Nat} {v : Int} (h : RootAt N k v) (hk : k < 32) (ht : IntKind.u64.wrap (bits .or .u64 v (IntKind.u64.wrap (2 ^ (31 - k))) * bits .or .u64 v (IntKind.u64.wrap (2 ^ (31 - k)))) ≤ (N : Int)) : RootAt N (k + 1) (bits .or .u64 v (IntKind.u64.wrap (2 ^ (31 - k)))) := by
  obtain ⟨a, p, q, hp, ha, rfl, h2, h3, h4, h5, h6⟩ := h.more hk
  rw [h6] at ht
  rw [h5]
  have e : (2 * q + 1) * p = a + p := by rw [ha, Nat.add_mul, Nat.one_mul, Nat.mul_left_comm, ← Nat.mul_assoc]
  refine ⟨p, 2 * q + 1, hp, by rw [e], by rw [e]; exact Int.ofNat_le.1 ht, ?_, by rw [e]; omega⟩
  rw [e]
  have e2 : a + p + p = a + 2 * p := by omega
  rw [e2]; exact h3
theorem RootAt.no {N k : Nat} {v : Int} (h : RootAt N k v) (hk : k < 32) (ht : (N : Int) < IntKind.u64.wrap (bits .or .u64 v (IntKind.u64.wrap (2 ^ (31 - k))) * bits .or .u64 v (IntKind.u64.wrap (2 ^ (31 - k))))) : RootAt N (k + 1) v := by
  obtain ⟨a, p, q, hp, ha, rfl, h2, h3, h4, h5, h6⟩ := h.more hk
  rw [h6] at ht
  have e : (2 * q) * p = a := by rw [ha, Nat.mul_left_comm, ← Nat.mul_assoc]
  exact ⟨p, 2 * q, hp, by rw [e], by rw [e]; exact h2, by rw [e]; exact Int.ofNat_lt.1 ht, by rw [e]; omega⟩

theorem bodyPost_natR {R : Ending → World → Prop} {fn : Func} {p : Tmp} (h : fn.results = #[.cell p 33]) {w W w' : World} {a : Act} {x y x0 : Value} {p0 : Option Addr} {l0 c0 : Nat} {n : Int} {c : Nat} (hR : ∀ e w', RetNat n w e w' → R e w') (hd : a.defers = []) (hp : a.tmps.getD p undef = .pointer (some ⟨c, 0, none⟩))
    (h0 : Below w.heap.size w W) (hb : Below W.heap.size W w') (hv : IsNat w' (.agg #[x, y]) n) (hg : W.heap[c]? = some (.cells #[x0, .slice p0 l0 c0] 33 (0, 0))) (hcw : w.heap.size ≤ c) :
    bodyPost Tryd.prog fn R .ret a ((w'.setCell ⟨c, 0, none⟩ x).setCell ⟨c, 1, none⟩ y) := by
  obtain ⟨hd, v, hr, hp⟩ := bodyPost_nat h hd hp h0 hb hv hg hcw
  exact ⟨hd, v, hr, hR _ _ hp⟩

def RootPost (N : Nat) (w : World) (e : Ending) (w' : World) : Prop := ∃ r : Nat, r * r ≤ N ∧ N < (r + 1) * (r + 1) ∧ r < 4294967296 ∧ RetNat r w e w'
end Go.Proofs.YtkggglhnhlclmaaDoor

namespace Go.Proofs.YtkggglhnhlclmaaDoor
open Go.RowKit
set_option linter.unusedVariables false

/-- Block c is the variable of a number. -/
def Var (w : World) (c : Nat) (x y : Value) : Prop := w.heap[c]? = some (.cells #[x, y] 33 (0, 0)) ∧ ∃ p l q, y = .slice p l q
theorem Var.lt {w : World} {c : Nat} {x y : Value} (h : Var w c x y) : c < w.heap.size := (Array.getElem?_eq_some_iff.1 h.1).1
theorem Var.c0 {w : World} {c : Nat} {x y : Value} (h : Var w c x y) : w.cell? ⟨c, 0, none⟩ = some x := by rw [cell_of_row w c 0 _ _ (0, 0) h.1]; rfl
theorem Var.c1 {w : World} {c : Nat} {x y : Value} (h : Var w c x y) : w.cell? ⟨c, 1, none⟩ = some y := by rw [cell_of_row w c 1 _ _ (0, 0) h.1]; rfl
theorem Var.free {w : World} {c : Nat} {x y : Value} (h : Var w c x y) (i : Nat) : w.frozen? ⟨c, i, none⟩ = false := frozen_of_row w c i _ _ h.1
theorem Var.below {w w' : World} {B c : Nat} {x y : Value} (h : Var w c x y) (hb : Below B w w') (hB : c < B) : Var w' c x y := ⟨(hb.block c hB).trans h.1, h.2⟩
theorem Var.grown {w w' : World} {row : Option Nat} {c : Nat} {x y : Value} (h : Var w c x y) (hg : w.grownBy w' row) (hr : some c ≠ row) : Var w' c x y := ⟨(hg.block c h.lt hr).trans h.1, h.2⟩
theorem Var.alloc {w : World} {c : Nat} {x y : Value} (h : Var w c x y) (o : Obj) : Var (w.alloc o) c x y := ⟨(heap_old w o c h.lt).trans h.1, h.2⟩
theorem Var.drewN {w : World} {c : Nat} {x y : Value} (h : Var w c x y) (n : Nat) : Var (w.drewN n) c x y := h
theorem Var.drew {w : World} {c : Nat} {x y : Value} (h : Var w c x y) : Var w.drew c x y := h
theorem Var.new (w : World) (c : Nat) (x : Value) (p : Option Addr) (l q : Nat) (hc : c = w.heap.size) : Var (w.alloc (.cells #[x, .slice p l q] 33)) c x (.slice p l q) := ⟨heap_new w _ c hc, _, _, _, rfl⟩
theorem Var.set {w : World} {c : Nat} {x y : Value} (h : Var w c x y) (x' : Value) (p : Option Addr) (l q : Nat) : Var ((w.setCell ⟨c, 0, none⟩ x').setCell ⟨c, 1, none⟩ (.slice p l q)) c x' (.slice p l q) := by
  have h1 := heap_setCell_same w c 0 _ _ x' h.1
  have h2 := heap_setCell_same _ c 1 _ _ (.slice p l q) h1
  exact ⟨h2, _, _, _, rfl⟩
theorem Var.other {w : World} {c d i : Nat} {x y : Value} (h : Var w c x y) (hd : c ≠ d) (v : Value) : Var (w.setCell ⟨d, i, none⟩ v) c x y := ⟨(heap_setCell_other w ⟨d, i, none⟩ c v hd).trans h.1, h.2⟩
theorem Arr.neVar {w : World} {b c : Nat} {t : TypeId} {k : IntKind} {l : List Int} {x y : Value} (ha : Arr w b t k l) (h : Var w c x y) : b ≠ c := by
  obtain ⟨p, m, q, rfl⟩ := h.2
  exact ha.ne_slice h.c1
/-- A number stays what it is while a variable is written. -/
theorem IsNat.two {w : World} {v : Value} {n : Int} {c : Nat} {x y : Value} (h : IsNat w v n) (hc : Var w c x y) (x' y' : Value) : IsNat ((w.setCell ⟨c, 0, none⟩ x').setCell ⟨c, 1, none⟩ y') v n := by
  obtain ⟨p, m, q, rfl⟩ := hc.2
  exact h.stored hc.c1 x' y'
theorem IsNat.drewN {w : World} {v : Value} {n : Int} (h : IsNat w v n) (k : Nat) : IsNat (w.drewN k) v n := h
theorem below_two {B : Nat} {a w : World} (h : Below B a w) {c : Nat} (hc : B ≤ c) (x y : Value) : Below B a ((w.setCell ⟨c, 0, none⟩ x).setCell ⟨c, 1, none⟩ y) := (h.setCell (p := ⟨c, 0, none⟩) hc x).setCell (p := ⟨c, 1, none⟩) hc y

/-- Two numbers and true are answered. -/
def RetDiv (q r : Int) (w : World) (e : Ending) (w' : World) : Prop := ∃ v1 v2, e = .returned (.tuple #[v1, v2, .bool true]) ∧ IsNat w' v1 q ∧ IsNat w' v2 r ∧ Below w.heap.size w w'
/-- Two numbers are answered. -/
def RetTwo (q r : Int) (w : World) (e : Ending) (w' : World) : Prop := ∃ v1 v2, e = .returned (.tuple #[v1, v2]) ∧ IsNat w' v1 q ∧ IsNat w' v2 r ∧ Below w.heap.size w w'
/-- A number and true are answered. -/
def RetOne (q : Int) (w : World) (e : Ending) (w' : World) : Prop := ∃ v1, e = .returned (.tuple #[v1, .bool true]) ∧ IsNat w' v1 q ∧ Below w.heap.size w w'

theorem run_loadVar_nat {w : World} {c : Nat} {x y : Value} (h : Var w c x y) : (loadVar 33 ⟨c, 0, none⟩).run Tryd.prog w = .ok (.agg #[x, y]) w :=
  run_loadVar_row w c _ 33 #[x, y] (0, 0) _ h.1 Tryd.underlying33 rfl (by kernel_rfl)

theorem bodyPost_div {fn : Func} {p q s : Tmp} (h : fn.results = #[.cell p 33, .cell q 33, .tmp s]) {w w' : World} {a : Act} {x y u v : Value} {Q R : Int} {c d : Nat} (hd : a.defers = [])
    (hp : a.tmps.getD p undef = .pointer (some ⟨c, 0, none⟩)) (hq : a.tmps.getD q undef = .pointer (some ⟨d, 0, none⟩)) (hs : a.tmps.getD s undef = .bool true) (hc : Var w' c x y) (hd' : Var w' d u v)
    (h1 : IsNat w' (.agg #[x, y]) Q) (h2 : IsNat w' (.agg #[u, v]) R) (hB : Below w.heap.size w w') : bodyPost Tryd.prog fn (RetDiv Q R w) .ret a w' := by
  refine bodyPost_ret (v := .tuple #[.agg #[x, y], .agg #[u, v], .bool true]) ?_ hd ⟨_, _, rfl, h1, h2, hB⟩
  have hp' : a.tmps[p]?.getD undef = .pointer (some ⟨c, 0, none⟩) := by simpa using hp
  have hq' : a.tmps[q]?.getD undef = .pointer (some ⟨d, 0, none⟩) := by simpa using hq
  have hs' : a.tmps[s]?.getD undef = .bool true := by simpa using hs
  simp [results, h, hp', hq', hs', asAddr, run_loadVar_nat hc, run_loadVar_nat hd']
theorem bodyPost_two {fn : Func} {p q : Tmp} (h : fn.results = #[.cell p 33, .cell q 33]) {w w' : World} {a : Act} {x y u v : Value} {Q R : Int} {c d : Nat} (hd : a.defers = [])
    (hp : a.tmps.getD p undef = .pointer (some ⟨c, 0, none⟩)) (hq : a.tmps.getD q undef = .pointer (some ⟨d, 0, none⟩)) (hc : Var w' c x y) (hd' : Var w' d u v)
    (h1 : IsNat w' (.agg #[x, y]) Q) (h2 : IsNat w' (.agg #[u, v]) R) (hB : Below w.heap.size w w') : bodyPost Tryd.prog fn (RetTwo Q R w) .ret a w' := by
  refine bodyPost_ret (v := .tuple #[.agg #[x, y], .agg #[u, v]]) ?_ hd ⟨_, _, rfl, h1, h2, hB⟩
  have hp' : a.tmps[p]?.getD undef = .pointer (some ⟨c, 0, none⟩) := by simpa using hp
  have hq' : a.tmps[q]?.getD undef = .pointer (some ⟨d, 0, none⟩) := by simpa using hq
  simp [results, h, hp', hq', asAddr, run_loadVar_nat hc, run_loadVar_nat hd']
theorem bodyPost_one {fn : Func} {p s : Tmp} (h : fn.results = #[.cell p 33, .tmp s]) {w w' : World} {a : Act} {x y : Value} {Q : Int} {c : Nat} (hd : a.defers = [])
    (hp : a.tmps.getD p undef = .pointer (some ⟨c, 0, none⟩)) (hs : a.tmps.getD s undef = .bool true) (hc : Var w' c x y)
    (h1 : IsNat w' (.agg #[x, y]) Q) (hB : Below w.heap.size w w') : bodyPost Tryd.prog fn (RetOne Q w) .ret a w' := by
  refine bodyPost_ret (v := .tuple #[.agg #[x, y], .bool true]) ?_ hd ⟨_, rfl, h1, hB⟩
  have hp' : a.tmps[p]?.getD undef = .pointer (some ⟨c, 0, none⟩) := by simpa using hp
  have hs' : a.tmps[s]?.getD undef = .bool true := by simpa using hs
  simp [results, h, hp', hs', asAddr, run_loadVar_nat hc]
theorem bodyPost_var {fn : Func} {p : Tmp} (h : fn.results = #[.cell p 33]) {w w' : World} {a : Act} {x y : Value} {Q : Int} {c : Nat} (hd : a.defers = [])
    (hp : a.tmps.getD p undef = .pointer (some ⟨c, 0, none⟩)) (hc : Var w' c x y) (h1 : IsNat w' (.agg #[x, y]) Q) (hB : Below w.heap.size w w') : bodyPost Tryd.prog fn (RetNat Q w) .ret a w' := by
  refine bodyPost_ret (v := .agg #[x, y]) ?_ hd ⟨_, rfl, h1, hB⟩
  have hp' : a.tmps[p]?.getD undef = .pointer (some ⟨c, 0, none⟩) := by simpa using hp
  simp [results, h, hp', asAddr, run_loadVar_nat hc]
/-- One call more: what lay below B lies there still. -/
theorem below_acc {B : Nat} {a b c : World} (h : Below B a b) (hB : B ≤ b.heap.size) (k : Below b.heap.size b c) : Below B a c := h.trans (k.mono hB)
theorem below_accD {B : Nat} {a b c : World} (h : Below B a b) (hB : B ≤ b.heap.size) (k : Below b.drew.heap.size b.drew c) : Below B a c := h.trans ((⟨k.os, k.tape, k.output, k.size, k.block⟩ : Below b.heap.size b c).mono hB)
end Go.Proofs.YtkggglhnhlclmaaDoor

namespace Go.Proofs.YtkggglhnhlclmaaDoor
open Go.RowKit
set_option linter.unusedVariables false

theorem bits_nz {m : Int} (h : Word m) (hm : m ≠ 0) : (((Lib.bitLen m.toNat : Nat) : Int) == 0) = false := by
  have := Lib.bitLenAux_bounds 64 m.toNat (by unfold Word at h; omega) (by unfold Word at h; omega)
  have h2 : 1 ≤ Lib.bitLen m.toNat := this.1
  simp; omega

/-- The boxes of Div: both numbers and both results. -/
structure Boxes (w w2 : World) (x0 y0 x1 y1 x2 y2 x3 y3 : Value) : Prop where
  v0 : Var w2 w.heap.size x0 y0
  v1 : Var w2 (w.heap.size + 1) x1 y1
  v2 : Var w2 (w.heap.size + 1 + 1) x2 y2
  v3 : Var w2 (w.heap.size + 1 + 1 + 1) x3 y3
  below : Below w.heap.size w w2
theorem boxes {w w2 : World} {x0 x1 x2 x3 : Value} {p0 p1 p2 p3 : Option Addr} {l0 l1 l2 l3 q0 q1 q2 q3 : Nat}
    (hb : Below (w.heap.size + 1 + 1 + 1 + 1) ((((w.alloc (.cells #[x0, .slice p0 l0 q0] 33)).alloc (.cells #[x1, .slice p1 l1 q1] 33)).alloc (.cells #[x2, .slice p2 l2 q2] 33)).alloc (.cells #[x3, .slice p3 l3 q3] 33)) w2) :
    Boxes w w2 x0 (.slice p0 l0 q0) x1 (.slice p1 l1 q1) x2 (.slice p2 l2 q2) x3 (.slice p3 l3 q3) :=
  ⟨((((Var.new w _ x0 p0 l0 q0 rfl).alloc _).alloc _).alloc _).below hb (by omega), (((Var.new _ _ x1 p1 l1 q1 (by simp)).alloc _).alloc _).below hb (by omega),
   ((Var.new _ _ x2 p2 l2 q2 (by simp)).alloc _).below hb (by omega), (Var.new _ _ x3 p3 l3 q3 (by simp)).below hb (by omega),
   Below.trans (by go_grown) (hb.mono (by omega))⟩

theorem of_exact (n : Int) (w : World) :
    Calls Tryd.prog 38 #[.int .u64 n] w fun e w' => e = .returned (.agg #[.int .u64 n, .slice none 0 0]) ∧ w.alloc (.cells #[.int .u64 n, .slice none 0 0] 33) = w' := by
  go_enter Tryd.func38, Tryd.ntmps38
  go_wp2
  go_returns
  exact ⟨rfl, rfl⟩

end Go.Proofs.YtkggglhnhlclmaaDoor

namespace Go.Proofs.YtkggglhnhlclmaaDoor
open Go.RowKit
set_option linter.unusedVariables false

def sevens : ByteArray := ⟨#[48, 48, 55]⟩
theorem K17 : Hid (17 < 18446744073709551616) := Lib.hid (by decide)
theorem IsNat.one {w : World} {v : Value} {n : Int} (h : IsNat w v n) (hn : n < 18446744073709551616) : v = .agg #[.int .u64 n, .slice none 0 0] := by
  rcases h with h | ⟨b, t, len, cap, l, hv, ha, hp, hc, hl, hm, hw, hz, rfl⟩
  · exact h.2
  · have h1 := val_low hw (by omega) (by omega) hz
    have h2 := pw_mono (a := 1) (b := len - 1) (by omega)
    simp only [pw] at h2
    omega
end Go.Proofs.YtkggglhnhlclmaaDoor
