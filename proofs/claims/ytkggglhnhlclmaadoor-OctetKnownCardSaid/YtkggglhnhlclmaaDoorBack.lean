/- Contract of slices.Backward over words: what it yields, in which order. A loop over an iterator whose body may write what the iterator reads: the rounds are counted, and what holds at each is said by its number; slices.Backward over such a loop. -/
import Derived.Test.YtkggglhnhlclmaaDoorNat0
import Derived.RangeFuncNested
import Derived.RangeFuncBound
import Derived.RangeFuncCalls
import Derived.RangeFuncLeaves
import Derived.RangeFuncBox
import Derived.Shelf.Abstract
import Derived.OwnWalkIn
import Derived.TacticsInMore
import Derived.LoopNIn
import Derived.LoopIn
namespace Go.Proofs.YtkggglhnhlclmaaDoor
open Go.RowKit Go.Shelf
set_option linter.unusedVariables false
attribute [local go_sem] Oper.semAt_some

/-- The places of l below len, each with its word. -/
abbrev At (l : List Int) (len : Nat) := { x : Nat × Int // x.1 < len ∧ x.2 = l.getD x.1 0 }
/-- What has come when k rounds are over: the highest place first. -/
def down (l : List Int) (len : Nat) : (k : Nat) → k ≤ len → List (At l len)
  | 0, _ => []
  | k + 1, h => down l len k (by omega) ++ [⟨(len - 1 - k, l.getD (len - 1 - k) 0), by show len - 1 - k < len; omega, rfl⟩]
theorem down_length (l : List Int) (len : Nat) : ∀ k h, (down l len k h).length = k
  | 0, _ => rfl
  | k + 1, h => by simp [down, down_length l len k]

theorem down_next (l : List Int) (len k : Nat) (h : k + 1 ≤ len) (x : At l len) (hx : x.1.1 = len - 1 - k) : down l len (k + 1) h = down l len k (by omega) ++ [x] := by
  obtain ⟨⟨i, v⟩, h1, h2⟩ := x
  dsimp only at hx h1 h2
  subst hx
  subst h2
  rfl

end Go.Proofs.YtkggglhnhlclmaaDoor

namespace Go.Proofs.YtkggglhnhlclmaaDoor
open Go.RowKit Go.Shelf
set_option linter.unusedVariables false
attribute [local go_sem] Oper.semAt_some

section
variable {F : Fence} {n : Nat} {P : Program}
/-- N rounds, each by its number: what I says of it the iterator may lean on. -/
theorem wpIn_steps {g : Operand} {ps : Array Tmp} {assign body : Code} {Q : Exit → Act → World → Prop} {a : Act} {w : World}
    (hro : F.round = none) (h1 : 1 ≤ n) {gf : Nat} {lb : Array Value} (hg : a.eval g = .func (.func gf) #[] lb) (hFg : F.fn gf) (eg : ∀ args w, (callFunc gf args).run P w = .ok (.enter gf args) w)
    (N : Nat) (encs : Nat → Array Value) (hps : ∀ k, (encs k).size = ps.size) (I : Nat → World → Prop) (hI : OwnFrom w.heap.size I) (h0 : I 0 w)
    (hiter : ∀ (l : Nat) (J : Nat → World → Prop) (W : World), (∀ k W, J k W → I k W) → AbidesFrom W.heap.size J →
      (∀ k W1, k < N → J k W1 → YieldAt F (n - 1 - 1) P l (encs k) W1 fun e W' => e = .returned (.bool true) ∧ J (k + 1) W') → J 0 W →
      CallsIn F (n - 1) P gf (#[.func (.yield l) #[] #[]] ++ lb) W fun e W' => (∃ v, e = .returned v) ∧ J N W')
    (a₁ : Nat → Act)
    (hassign : ∀ (l k : Nat) (W : World) (K : Act → World → Prop), K (a₁ k) W →
      assign.wpIn (F.inRound l) (n - 1 - 1) P (Exit.then K (fun _ _ _ => False)) { tmps := (ps.zip (encs k)).foldl (fun t (p, v) => t.setIfInBounds p v) a.tmps, defers := [] } W)
    (hbody : ∀ (l k : Nat) (W : World), k < N → I k W → body.wpIn (F.inRound l) (n - 1 - 1) P (Exit.then (fun _ W' => KeepsFrom w.heap.size W W' ∧ I (k + 1) W') (fun _ _ _ => False)) (a₁ k) W)
    (hdone : ∀ (D : Nat) (W : World), w.heap.size ≤ D → I N W → W.heap[D]? = some (.deferred (some [])) → Q .normal { a with defers := { target := .collected D, args := #[] } :: a.defers } W) :
    (Code.rangeFunc g ps assign body).wpIn F n P Q a w := by
  refine wpIn_rangeFunc fun fn hfn => ?_
  rw [hro]
  have hT : ∀ st : LoopState, ∃ r : Loop, r = { state := st, pending := none, fn := fn, tmps := a.tmps, params := ps, assign := assign, body := body, defers := w.heap.size } := fun st => ⟨_, rfl⟩
  obtain ⟨r0, hr0⟩ := hT .ready
  obtain ⟨r1, hr1⟩ := hT .busy
  obtain ⟨V, hV⟩ : ∃ V, (w.alloc (.deferred (some []))).alloc (.loop r0) = V := ⟨_, rfl⟩
  have hs : V.heap.size = w.heap.size + 2 := by rw [← hV]; simp
  have hL : V.heap[w.heap.size + 1]? = some (.loop r0) := by
    rw [← hV]; exact heap_new (w.alloc _) _ _ (by simp)
  have hD : V.heap[w.heap.size]? = some (.deferred (some [])) := by
    rw [← hV]; exact (heap_old (w.alloc _) _ _ (by simp)).trans (heap_new w _ _ rfl)
  have hI1 : I 0 V := by rw [← hV]; exact hI.alloc _ (hI.alloc _ h0)
  refine ⟨w.heap.size + 1, [{ target := .collected w.heap.size, args := #[] }], V, { target := .fn (.func gf) lb, args := #[.func (.yield (w.heap.size + 1)) #[] #[]] }, V, gf, #[.func (.yield (w.heap.size + 1)) #[] #[]] ++ lb, V, ?_, ?_, ?_, ?_, fun _ => h1, ?_⟩
  · rw [← hV, hr0]; exact run_enterLoop_outer _ _ _ _ _
  · simp only [resolve, hg]
    simp [go_sem]
  · intro f' hf'
    simp [Target.leads] at hf'
    subst hf'
    exact hFg
  · simp [invoke, go_sem, eg]
  have cells : ∀ {A : World} {r : Nat} {o : Obj}, V.heap.size ≤ r → A.heap[r]? = some o → o.isWalk = true → w.heap.size ≤ r ∧ ∃ o : Obj, A.heap[r]? = some o ∧ o.isCells = false := fun hB ho hw => ⟨by omega, _, ho, Obj.not_cells_of_walk hw⟩
  have it := hiter (w.heap.size + 1) (fun k W => I k W ∧ W.heap[w.heap.size + 1]? = some (.loop r0) ∧ W.heap[w.heap.size]? = some (.deferred (some []))) V (fun k W h => h.1) ?abides ?round ⟨hI1, hL, hD⟩
  case abides =>
    rintro k A B row ⟨h, hl, hd⟩ hgr hr
    refine ⟨hI k A B row h hgr (fun r e => ?_), (grownBy_keeps hgr (fun r e => (hr r e).2) hl rfl).trans hl, (grownBy_keeps hgr (fun r e => (hr r e).2) hd rfl).trans hd⟩
    obtain ⟨hB, o, ho, hw⟩ := hr r e
    exact cells hB ho hw
  case round =>
    rintro k W hk ⟨h, hl, hd⟩
    have hlt := (Array.getElem?_eq_some_iff.1 hl).1
    have hy := run_yield (P := P) (args := encs k) hl (by rw [hr0]; exact hps k)
    have hb1 := run_beginRound (P := P) hl (by rw [hr0])
    rw [hr0] at hy
    refine ⟨fn, _, assign, body, hy, roundIn_of_wpIn hfn (hassign _ k W _ ⟨_, hb1, ?_⟩)⟩
    have e1 : ({ r0 with state := .busy } : Loop) = r1 := by rw [hr0, hr1]
    rw [e1]
    obtain ⟨U, hU⟩ : ∃ U, W.putObj (w.heap.size + 1) (.loop r1) = U := ⟨_, rfl⟩
    have ul : U.heap[w.heap.size + 1]? = some (.loop r1) := by rw [← hU]; exact World.putObj_heap_same hlt
    have ud : U.heap[w.heap.size]? = some (.deferred (some [])) := by rw [← hU]; exact (World.putObj_heap_other (by omega)).trans hd
    have ui : I k U := by rw [← hU]; exact hI.putObj _ h (by omega) hl rfl
    rw [hU]
    refine wpIn_mono (hbody _ k U hk ui) ?_
    intro e a3 W3 hp
    cases e with
    | normal =>
      obtain ⟨hk3, hi3⟩ := hp
      have wl := hk3.same _ _ (by omega) ul rfl
      have wd := hk3.same _ _ (Nat.le_refl _) ud rfl
      have he := run_endRound (P := P) none wl
      have e2 : ({ r1 with state := if (none : Option Code).isNone then .ready else .done, pending := none } : Loop) = r0 := by rw [hr0, hr1]; rfl
      rw [e2] at he
      exact ⟨_, _, he, rfl, hI.putObj _ hi3 (by omega) wl rfl, World.putObj_heap_same (Array.getElem?_eq_some_iff.1 wl).1, (World.putObj_heap_other (by omega)).trans wd⟩
    | ret => exact hp.elim
    | exit id => exact hp.elim
    | goto t => exact hp.elim
    | panic ch => exact hp.elim
    | outgrown => exact hp.elim
  refine it.mono ?_
  rintro e W2 ⟨⟨v, rfl⟩, hi, hl, hd⟩
  have he := run_endLoop (P := P) hl (by rw [hr0]; simp)
  rw [show r0.pending = none by rw [hr0]] at he
  refine ⟨none, _, he, hdone _ _ (Nat.le_refl _) (hI.putObj _ hi (by omega) hl rfl) ((World.putObj_heap_other (by omega)).trans hd)⟩
end

/-- A region that draws its order, in a round too: R stands for what is to be shown of each set of operations that are through. -/
theorem region_ways {F : Fence} {n : Nat} {P : Program} {ops : Array Oper} {Q : Exit → Act → World → Prop} {id : Nat} {a : Act} {w : World} (hm : P.follows .mixedOrders = true)
    (h : ∀ R : Nat → Array Bool → Act → World → Prop, wpAnyIn F n P .any ops Q = R → R ops.size (Array.replicate ops.size false) a w.drew) : (Code.region id ops true).wpIn F n P Q a w :=
  wpIn_region_any hm (h _ rfl)
end Go.Proofs.YtkggglhnhlclmaaDoor
