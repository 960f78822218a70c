/- Contracts of the leaves of package nat: Of, pair, Small, Bits; the carry laws of math/bits. -/
import Derived.Test.YtjaepdjidfhamaaDoorProg
import Derived.Test.YtjaepdjidfhamaaDoorShelf
import Derived.Test.YtjaepdjidfhamaaDoorArr
import Derived.Laws.Externs
import Derived.BigQuiet
import Derived.Deep.QuietTactic
namespace Go.Proofs.YtjaepdjidfhamaaDoor
open Go.RowKit
set_option linter.unusedVariables false

theorem add64 (x y c : Int) (hx : 0 ≤ x) (hy : 0 ≤ y) (hc0 : 0 ≤ c) (hc : c ≤ 1) (w : World) : (callFunc 46 #[.int .u64 x, .int .u64 y, .int .u64 c]).run Tryd.prog w =
    .ok (.value (.tuple #[.int .u64 ((x + y + c) % 18446744073709551616), .int .u64 ((x + y + c) / 18446744073709551616)])) w := by
  rw [run_callFunc_extern Tryd.func46 (by kernel_rfl) (by kernel_rfl) (by kernel_rfl) (e := add64Entry) (by kernel_rfl), run_add64 x y c hx hy hc0 hc]
  rfl
theorem add64_0 (x y : Int) (hx : 0 ≤ x) (hy : 0 ≤ y) (w : World) : (callFunc 46 #[.int .u64 x, .int .u64 y, .int .u64 0]).run Tryd.prog w =
    .ok (.value (.tuple #[.int .u64 ((x + y) % 18446744073709551616), .int .u64 ((x + y) / 18446744073709551616)])) w := by
  simpa using add64 x y 0 hx hy (Int.le_refl 0) (by decide) w

theorem eqnil (w : World) (a : Option Addr) (l c : Nat) : (binOp .eql 23 (.slice a l c) (.slice none 0 0)).run Tryd.prog w = .ok (.bool a.isNone) w := Lib.run_eql_slice_nil w _ _ a l c 0 0 Tryd.underlying23
theorem neqnil (w : World) (a : Option Addr) (l c : Nat) : (binOp .neq 23 (.slice a l c) (.slice none 0 0)).run Tryd.prog w = .ok (.bool (!a.isNone)) w := run_neq_slice_nil_any w _ _ a l c 0 0 Tryd.underlying23

theorem bitLen_le {x : Int} (h : x < 18446744073709551616) : Lib.bitLen x.toNat ≤ 64 := Lib.bitLen_le x.toNat 64 (by decide) (by omega)

theorem of_any (n : Int) (w : World) :
    Calls Tryd.prog 7 #[.int .u64 n] w fun e w' => e = .returned (.agg #[.int .u64 n, .slice none 0 0]) ∧ Below w.heap.size w w' := by
  go_enter Tryd.func7, Tryd.ntmps7
  go_wp2
  go_returns
  exact ⟨rfl, by go_grown⟩

theorem pair_zero (lo : Int) (w : World) :
    Calls Tryd.prog 43 #[.int .u64 0, .int .u64 lo] w fun e w' => e = .returned (.agg #[.int .u64 lo, .slice none 0 0]) ∧ Below w.heap.size w w' := by
  go_enter Tryd.func43, Tryd.ntmps43
  go_wp2
  go_returns
  exact ⟨rfl, by go_grown⟩
theorem pair_two (hi lo : Int) (h : (hi == 0) = false) (w : World) :
    Calls Tryd.prog 43 #[.int .u64 hi, .int .u64 lo] w fun e w' => e = .returned (.agg #[.int .u64 0, .slice (some ⟨w.heap.size + 1, 0, none⟩) 2 2]) ∧ Below w.heap.size w w' ∧ Arr w' (w.heap.size + 1) 22 .u64 [lo, hi] := by
  go_enter Tryd.func43, Tryd.ntmps43
  go_wp2
  go_returns
  exact ⟨rfl, by go_grown, Arr.new _ _ _ [lo, hi] _ (by simp)⟩
theorem small_word (n : Int) (w : World) :
    Calls Tryd.prog 10 #[.agg #[.int .u64 n, .slice none 0 0]] w fun e w' => e = .returned (.tuple #[.int .u64 n, .bool true]) ∧ Below w.heap.size w w' := by
  have e1 := eqnil
  go_enter Tryd.func10, Tryd.ntmps10
  go_wp2
  go_quiet (fail)
  go_wp2
  go_ret2
  exact ⟨rfl, below_drewN (by go_grown) _⟩
theorem small_many (a : Addr) (l c : Nat) (w : World) :
    Calls Tryd.prog 10 #[.agg #[.int .u64 0, .slice (some a) l c]] w fun e w' => e = .returned (.tuple #[.int .u64 0, .bool false]) ∧ Below w.heap.size w w' := by
  have e1 := eqnil
  go_enter Tryd.func10, Tryd.ntmps10
  go_wp2
  go_quiet (fail)
  go_wp2
  go_ret2
  exact ⟨rfl, below_drewN (by go_grown) _⟩

theorem bits_word (n : Int) (hn : Word n) (w : World) :
    Calls Tryd.prog 13 #[.agg #[.int .u64 n, .slice none 0 0]] w fun e w' => e = .returned (.int .i64 (Lib.bitLen n.toNat)) ∧ Below w.heap.size w w' := by
  have e1 := eqnil
  obtain ⟨h0, h1⟩ := hn
  go_enter Tryd.func13, Tryd.ntmps13
  go_wp2_with (go_at_call 30; refine (Tryd.bits_Len64 n _ h0 (by omega)).mono ?_; rintro e w' ⟨rfl, rfl⟩)
  go_ret
  exact ⟨rfl, by go_grown⟩
theorem bits_many (b : Nat) (t : TypeId) (len cap : Nat) (l : List Int) (w : World) (ha : Arr w b t .u64 l) (h2 : 2 ≤ len) (hl : len ≤ l.length) (hm : len ≤ 140737488355328) (hw : Words l) :
    Calls Tryd.prog 13 #[.agg #[.int .u64 0, .slice (some ⟨b, 0, none⟩) len cap]] w fun e w' => e = .returned (.int .i64 (((len - 1) * 64 + Lib.bitLen (l.getD (len - 1) 0).toNat : Nat))) ∧ Below w.heap.size w w' := by
  have e1 := eqnil
  obtain ⟨k, rfl⟩ : ∃ k, len = k + 1 := ⟨len - 1, by omega⟩
  rw [Nat.add_sub_cancel]
  have hx := hw.getD k
  have hc := (ha.alloc (.cells #[Value.int .u64 0, .slice (some ⟨b, 0, none⟩) (k + 1) cap] 25)).cell k (by omega)
  generalize l.getD k 0 = x at hx hc ⊢
  obtain ⟨h0, h1⟩ := hx
  have hB : Lib.bitLen x.toNat ≤ 64 := bitLen_le h1
  generalize hv : Lib.bitLen x.toNat = v at hB ⊢
  have Hv := Lib.hid hv
  clear hv
  go_enter Tryd.func13, Tryd.ntmps13
  go_wp2_with (go_at_call 30; refine (Tryd.bits_Len64 _ _ h0 (by omega)).mono ?_; rintro e w' ⟨rfl, rfl⟩; rw [Hv.out])
  go_ret
  exact ⟨by congr 2, by go_grown⟩

theorem heap_new (w : World) (o : Obj) (c : Nat) (h : c = w.heap.size) : (w.alloc o).heap[c]? = some o := by subst h; exact _root_.Go.heap_alloc_new w o
theorem heap_old (w : World) (o : Obj) (c : Nat) (h : c < w.heap.size) : (w.alloc o).heap[c]? = w.heap[c]? := heap_alloc_old w o h
/-- A number that was stored into the result's variable is returned. -/
theorem bodyPost_nat {fn : Func} {p : Tmp} (h : fn.results = #[.cell p 25]) {w W w' : World} {a : Act} {x y x0 : Value} {p0 : Option Addr} {l0 c0 : Nat} {n : Int} {c : Nat} (hd : a.defers = []) (hp : a.tmps.getD p undef = .pointer (some ⟨c, 0, none⟩))
    (h0 : Below w.heap.size w W) (hb : Below W.heap.size W w') (hv : IsNat w' (.agg #[x, y]) n) (hg : W.heap[c]? = some (.cells #[x0, .slice p0 l0 c0] 25 (0, 0))) (hcw : w.heap.size ≤ c) :
    bodyPost Tryd.prog fn (RetNat n w) .ret a ((w'.setCell ⟨c, 0, none⟩ x).setCell ⟨c, 1, none⟩ y) := by
  have hlt : c < W.heap.size := (Array.getElem?_eq_some_iff.1 hg).1
  have hg' : w'.heap[c]? = some (.cells #[x0, .slice p0 l0 c0] 25 (0, 0)) := (hb.block c hlt).trans hg
  have h1 := heap_setCell_same w' c 0 _ _ x hg'
  have h2 := heap_setCell_same _ c 1 _ _ y h1
  refine bodyPost_ret (v := .agg #[x, y]) ?_ hd (RetNat.stored h0 hb hv (c := c) (p := p0) (m := l0) (q := c0) ?_ hcw x y)
  · exact results_cell_row h a.tmps _ c _ _ (0, 0) _ hp h2 Tryd.underlying25 rfl (by kernel_rfl)
  · rw [cell_of_row w' c 1 _ _ (0, 0) hg']; rfl
end Go.Proofs.YtjaepdjidfhamaaDoor
