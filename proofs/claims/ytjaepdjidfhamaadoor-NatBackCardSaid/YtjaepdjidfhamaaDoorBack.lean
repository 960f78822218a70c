/- Contract of slices.Backward over words: what it yields, in which order. -/
import Derived.Test.YtjaepdjidfhamaaDoorMem
import Derived.RangeFuncNested
import Derived.RangeFuncBound
import Derived.RangeFuncCalls
import Derived.RangeFuncLeaves
import Derived.RangeFuncBox
import Derived.Shelf.Abstract
import Derived.OwnWalkIn
import Derived.TacticsInMore
import Derived.LoopNIn
import Derived.LoopIn
namespace Go.Proofs.YtjaepdjidfhamaaDoor
open Go.RowKit Go.Shelf
set_option linter.unusedVariables false
attribute [local go_sem] Oper.semAt_some

/-- The places of l below len, each with its word. -/
abbrev At (l : List Int) (len : Nat) := { x : Nat × Int // x.1 < len ∧ x.2 = l.getD x.1 0 }
/-- What has come when k rounds are over: the highest place first. -/
def down (l : List Int) (len : Nat) : (k : Nat) → k ≤ len → List (At l len)
  | 0, _ => []
  | k + 1, h => down l len k (by omega) ++ [⟨(len - 1 - k, l.getD (len - 1 - k) 0), by show len - 1 - k < len; omega, rfl⟩]
theorem down_length (l : List Int) (len : Nat) : ∀ k h, (down l len k h).length = k
  | 0, _ => rfl
  | k + 1, h => by simp [down, down_length l len k]

theorem down_next (l : List Int) (len k : Nat) (h : k + 1 ≤ len) (x : At l len) (hx : x.1.1 = len - 1 - k) : down l len (k + 1) h = down l len k (by omega) ++ [x] := by
  obtain ⟨⟨i, v⟩, h1, h2⟩ := x
  dsimp only at hx h1 h2
  subst hx
  subst h2
  rfl

set_option maxRecDepth 100000 in
set_option maxHeartbeats 2000000 in
theorem back1_in (F : Fence) (n : Nat) (hf : F.fn 63) (hro : F.round = none) (hn : 1 ≤ n) (l' Bs n₀ b len cap : Nat) (l : List Int) (hm : len ≤ 140737488355328) (hb : b < n₀) (J Jx : List (At l len) → World → Prop)
    (hY : ∀ pre (x : At l len) W, J pre W → pre.length < len → YieldAt F (n - 1) Tryd.prog l' #[.int .i64 (x.1.1 : Int), .int .u64 x.1.2] W fun e W' =>
      (e = .returned (.bool true) ∧ J (pre ++ [x]) W' ∧ Below n₀ W W') ∨ (e = .returned (.bool false) ∧ Jx (pre ++ [x]) W'))
    (W : World) (hBn : Bs < n₀) (hBs : W.cell? ⟨Bs, 0, none⟩ = some (.slice (some ⟨b, 0, none⟩) len cap)) (hc : ∀ j, j < len → W.cell? ⟨b, j, none⟩ = some (.int .u64 (l.getD j 0))) (h0 : J [] W) :
    CallsIn F n Tryd.prog 63 #[.func (.yield l') #[] #[], .pointer (some ⟨Bs, 0, none⟩)] W fun e W' => (∃ v, e = .returned v) ∧
      ((∃ ys, ys = down l len len (Nat.le_refl _) ∧ J ys W') ∨ (∃ pre, (∃ k h, pre = down l len k h) ∧ Jx pre W')) := by
  refine callsIn_of_wp Tryd.func63 rfl hf ?_ hro
  simp only [Tryd.ntmps63, List.size_toArray, List.length_cons, List.length_nil, Nat.reduceAdd, Nat.reduceSub, Array.replicate_succ, Array.replicate_zero, List.push_toArray, List.append_toArray, List.nil_append, List.cons_append]
  gi_wp2
  gi_loopw [3] (fun i wr => ∃ (k : Nat) (h : k ≤ len), i = .int .i64 ((len : Int) - 1 - k) ∧ J (down l len k h) wr ∧ Below n₀ W wr)
    (fun i _ => (intOf i + 1).toNat)
  case atStart => exact ⟨0, Nat.zero_le _, by simp, h0, Below.refl _ _⟩
  case round =>
    obtain ⟨k, hk, rfl, hJs, hnx⟩ := hrel
    by_cases hlt : k < len
    · obtain ⟨j, hj⟩ : ∃ j : Nat, len - 1 - k = j := ⟨_, rfl⟩
      have hjl : j < len := by omega
      have hje : ((len : Int) - 1 - k) = (j : Int) := by omega
      have hcx : wr.cell? ⟨b, j, none⟩ = some (.int .u64 (l.getD j 0)) := (hnx.cell (p := ⟨b, j, none⟩) hb).trans (hc j hjl)
      have hbs : wr.cell? ⟨Bs, 0, none⟩ = some (.slice (some ⟨b, 0, none⟩) len cap) := (hnx.cell (p := ⟨Bs, 0, none⟩) hBn).trans hBs
      obtain ⟨z, hz⟩ : ∃ z, z = l.getD j 0 := ⟨_, rfl⟩
      rw [← hz] at hcx
      have hnext := down_next l len k hlt ⟨(j, z), hjl, hz⟩ hj.symm
      obtain ⟨fn, tmps, assign, body, hy, hR⟩ := hY _ ⟨(j, z), hjl, hz⟩ wr hJs (by rw [down_length]; exact hlt)
      rw [← hnext] at hR
      dsimp only at hy
      rw [hje]
      have Hj := Lib.hid hj
      have Hje := Lib.hid hje
      clear hz hnext hj hje
      gi_wp2
      refine hR.mono ?_
      rintro e W3 (⟨rfl, hJ3, hk3⟩ | ⟨rfl, hJx3⟩)
      · gi_wp2
        go_roundw
        case rel => exact ⟨k + 1, hlt, by have := Hje.out; congr 1; omega, hJ3, hnx.trans hk3⟩
        case measure => have := Hje.out; simp [intOf]
      · gi_wp2
        refine bodyPost_ret (results_none rfl _ _ _) rfl ?_
        exact ⟨⟨_, rfl⟩, .inr ⟨_, ⟨k + 1, hlt, rfl⟩, hJx3⟩⟩
    · obtain rfl : k = len := by omega
      gi_wp2
      go_end0
      exact ⟨⟨_, rfl⟩, .inl ⟨_, rfl, hJs⟩⟩

set_option maxRecDepth 100000 in
set_option maxHeartbeats 1000000 in
theorem back1_nil_in (F : Fence) (n : Nat) (hf : F.fn 63) (hro : F.round = none) (l' Bs : Nat) {α : Type} (J : List α → World → Prop) (W : World) (hBs : W.cell? ⟨Bs, 0, none⟩ = some (.slice none 0 0)) (h0 : J [] W) :
    CallsIn F n Tryd.prog 63 #[.func (.yield l') #[] #[], .pointer (some ⟨Bs, 0, none⟩)] W fun e W' => (∃ v, e = .returned v) ∧ J [] W' := by
  refine callsIn_of_wp Tryd.func63 rfl hf ?_ hro
  simp only [Tryd.ntmps63, List.size_toArray, List.length_cons, List.length_nil, Nat.reduceAdd, Nat.reduceSub, Array.replicate_succ, Array.replicate_zero, List.push_toArray, List.append_toArray, List.nil_append, List.cons_append]
  gi_wp2
  gi_loopw [3] (fun i wr => i = .int .i64 (-1) ∧ J [] wr) (fun _ _ => 0)
  case atStart => exact ⟨rfl, h0⟩
  case round =>
    obtain ⟨rfl, hJs⟩ := hrel
    gi_wp2
    go_end0
    exact ⟨⟨_, rfl⟩, hJs⟩

set_option maxHeartbeats 1000000 in
theorem back_in (F : Fence) (n : Nat) (hf : F.fn 38) (hro : F.round = none) (a : Option Addr) (len cap : Nat) (w : World) :
    CallsIn F n Tryd.prog 38 #[.slice a len cap] w fun e w' => e = .returned (.func (.func 63) #[] #[.pointer (some ⟨w.heap.size, 0, none⟩)]) ∧ w' = w.alloc (.cells #[.slice a len cap] 23) := by
  refine callsIn_of_wp Tryd.func38 rfl hf ?_ hro
  simp only [Tryd.ntmps38, List.size_toArray, List.length_cons, List.length_nil, Nat.reduceAdd, Nat.reduceSub, Array.replicate_succ, Array.replicate_zero, List.push_toArray, List.append_toArray, List.nil_append, List.cons_append]
  gi_wp2
  go_ret
  exact ⟨rfl, rfl⟩

/-- slices.Backward hands back what yields the words from the highest place down: all, or the first of them. -/
theorem back_stops (F : Fence) (n : Nat) (hf : F.fn 63) (hro : F.round = none) (hn : 1 ≤ n) (Bs n₀ b len cap : Nat) (l : List Int) (hm : len ≤ 140737488355328) (w : World) (hBs : Bs < n₀) (hn₀ : n₀ ≤ w.heap.size) (hb : b < n₀)
    (hc : w.cell? ⟨Bs, 0, none⟩ = some (.slice (some ⟨b, 0, none⟩) len cap)) (hI : ∀ j, j < len → w.cell? ⟨b, j, none⟩ = some (.int .u64 (l.getD j 0))) :
    SeqStopsK F n Tryd.prog 63 #[.pointer (some ⟨Bs, 0, none⟩)] (fun x : At l len => #[Value.int .i64 (x.1.1 : Int), Value.int .u64 x.1.2]) (Below n₀) (fun ys => ys = down l len len (Nat.le_refl _))
      (fun pre => ∃ k h, pre = down l len k h) len w := fun l' J Jx W hW _ _ hY h0 => by
  refine back1_in F n hf hro hn l' Bs n₀ b len cap l hm hb J Jx hY W hBs ((hW.cell (p := ⟨Bs, 0, none⟩) (by show Bs < _; omega)).trans hc) (fun j hj => (hW.cell (p := ⟨b, j, none⟩) (by show b < _; omega)).trans (hI j hj)) h0
theorem back_stops_nil (F : Fence) (n : Nat) (hf : F.fn 63) (hro : F.round = none) (Bs n₀ : Nat) (w : World) (hBs : Bs < w.heap.size) (hc : w.cell? ⟨Bs, 0, none⟩ = some (.slice none 0 0)) :
    SeqStopsK F n Tryd.prog 63 #[.pointer (some ⟨Bs, 0, none⟩)] (fun x : Nat × Int => #[Value.int .i64 (x.1 : Int), Value.int .u64 x.2]) (Below n₀) (fun ys => ys = []) (fun pre => pre = []) 0 w := fun l' J Jx W hW _ _ hY h0 =>
  (back1_nil_in F n hf hro l' Bs J W ((hW.cell (p := ⟨Bs, 0, none⟩) hBs).trans hc) h0).mono fun e W' ⟨he, hj⟩ => ⟨he, .inl ⟨_, rfl, hj⟩⟩
end Go.Proofs.YtjaepdjidfhamaaDoor
