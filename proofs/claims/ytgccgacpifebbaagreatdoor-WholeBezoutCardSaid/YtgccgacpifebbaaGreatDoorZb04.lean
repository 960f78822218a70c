/- Back -/
import Derived.Test.YtgccgacpifebbaaGreatDoorZb02
import Derived.RangeFuncNested
import Derived.RangeFuncBound
import Derived.RangeFuncCalls
import Derived.RangeFuncLeaves
import Derived.RangeFuncBox
import Derived.Shelf.Abstract
import Derived.OwnWalkIn
import Derived.TacticsInMore
import Derived.LoopNIn
import Derived.LoopIn
namespace Go.Proofs.YtgccgacpifebbaaGreatDoor
open Go.RowKit Go.Shelf
set_option linter.unusedVariables false
attribute [local go_sem] Oper.semAt_some
/-- The places of l below len,each with its word. -/
abbrev At (l : List Int) (len : Nat) := { x : Nat × Int // x.1 < len ∧ x.2 = l.getD x.1 0 }
/-- What has come when k rounds are over: the highest place first. -/
def down (l : List Int) (len : Nat) : (k : Nat) → k ≤ len → List (At l len)
  | 0,_ => []
  | k + 1,h => down l len k (by omega) ++ [⟨(len - 1 - k,l.getD (len - 1 - k) 0),by show len - 1 - k < len; omega,rfl⟩]
theorem down_length (l : List Int) (len : Nat) : ∀ k h,(down l len k h).length = k
  | 0,_ => rfl
  | k + 1,h => by simp [down,down_length l len k]
theorem down_next (l : List Int) (len k : Nat) (h : k + 1 ≤ len) (x : At l len) (hx : x.1.1 = len - 1 - k) : down l len (k + 1) h = down l len k (by omega) ++ [x] := by
  obtain ⟨⟨i,v⟩,h1,h2⟩ := x
  dsimp only at hx h1 h2
  subst hx
  subst h2
  rfl
set_option maxRecDepth 100000 in
set_option maxHeartbeats 2000000 in
theorem back1_in (F : Fence) (n : Nat) (hf : F.fn 87) (hro : F.round = none) (hn : 1 ≤ n) (l' Bs n₀ b len cap : Nat) (l : List Int) (hm : len ≤ 140737488355328) (hb : b < n₀) (J Jx : List (At l len) → World → Prop)
    (hY : ∀ pre (x : At l len) W,J pre W → pre.length < len → YieldAt F (n - 1) Tryz.prog l' #[.int .i64 (x.1.1 : Int),.int .u64 x.1.2] W fun e W' =>
      (e = .returned (.bool true) ∧ J (pre ++ [x]) W' ∧ Below n₀ W W') ∨ (e = .returned (.bool false) ∧ Jx (pre ++ [x]) W'))
    (W : World) (hBn : Bs < n₀) (hBs : W.cell? ⟨Bs,0,none⟩ = some (.slice (some ⟨b,0,none⟩) len cap)) (hc : ∀ j,j < len → W.cell? ⟨b,j,none⟩ = some (.int .u64 (l.getD j 0))) (h0 : J [] W) :
    CallsIn F n Tryz.prog 87 #[.func (.yield l') #[] #[],.pointer (some ⟨Bs,0,none⟩)] W fun e W' => (∃ v,e = .returned v) ∧
      ((∃ ys,ys = down l len len (Nat.le_refl _) ∧ J ys W') ∨ (∃ pre,(∃ k h,pre = down l len k h) ∧ Jx pre W')) := by
  refine callsIn_of_wp Tryz.func87 rfl hf ?_ hro
  simp only [Tryz.ntmps87,List.size_toArray,List.length_cons,List.length_nil,Nat.reduceAdd,Nat.reduceSub,Array.replicate_succ,Array.replicate_zero,List.push_toArray,List.append_toArray,List.nil_append,List.cons_append]
  gi_wp2
  gi_loopw [3] (fun i wr => ∃ (k : Nat) (h : k ≤ len),i = .int .i64 ((len : Int) - 1 - k) ∧ J (down l len k h) wr ∧ Below n₀ W wr)
    (fun i _ => (intOf i + 1).toNat)
  case atStart => exact ⟨0,Nat.zero_le _,by simp,h0,Below.refl _ _⟩
  case round =>
    obtain ⟨k,hk,rfl,hJs,hnx⟩ := hrel
    by_cases hlt : k < len
    · obtain ⟨j,hj⟩ : ∃ j : Nat,len - 1 - k = j := ⟨_,rfl⟩
      have hjl : j < len := by omega
      have hje : ((len : Int) - 1 - k) = (j : Int) := by omega
      have hcx : wr.cell? ⟨b,j,none⟩ = some (.int .u64 (l.getD j 0)) := (hnx.cell (p := ⟨b,j,none⟩) hb).trans (hc j hjl)
      have hbs : wr.cell? ⟨Bs,0,none⟩ = some (.slice (some ⟨b,0,none⟩) len cap) := (hnx.cell (p := ⟨Bs,0,none⟩) hBn).trans hBs
      obtain ⟨z,hz⟩ : ∃ z,z = l.getD j 0 := ⟨_,rfl⟩
      rw [← hz] at hcx
      have hnext := down_next l len k hlt ⟨(j,z),hjl,hz⟩ hj.symm
      obtain ⟨fn,tmps,assign,body,hy,hR⟩ := hY _ ⟨(j,z),hjl,hz⟩ wr hJs (by rw [down_length]; exact hlt)
      rw [← hnext] at hR
      dsimp only at hy
      rw [hje]
      have Hj := Lib.hid hj
      have Hje := Lib.hid hje
      clear hz hnext hj hje
      gi_wp2
      refine hR.mono ?_
      rintro e W3 (⟨rfl,hJ3,hk3⟩ | ⟨rfl,hJx3⟩)
      · gi_wp2
        go_roundw
        case rel => exact ⟨k + 1,hlt,by have := Hje.out; congr 1; omega,hJ3,hnx.trans hk3⟩
        case measure => have := Hje.out; simp [intOf]
      · gi_wp2
        refine bodyPost_ret (results_none rfl _ _ _) rfl ?_
        exact ⟨⟨_,rfl⟩,.inr ⟨_,⟨k + 1,hlt,rfl⟩,hJx3⟩⟩
    · obtain rfl : k = len := by omega
      gi_wp2
      go_end0
      exact ⟨⟨_,rfl⟩,.inl ⟨_,rfl,hJs⟩⟩
set_option maxRecDepth 100000 in
set_option maxHeartbeats 1000000 in
theorem back1_nil_in (F : Fence) (n : Nat) (hf : F.fn 87) (hro : F.round = none) (l' Bs : Nat) {α : Type} (J : List α → World → Prop) (W : World) (hBs : W.cell? ⟨Bs,0,none⟩ = some (.slice none 0 0)) (h0 : J [] W) :
    CallsIn F n Tryz.prog 87 #[.func (.yield l') #[] #[],.pointer (some ⟨Bs,0,none⟩)] W fun e W' => (∃ v,e = .returned v) ∧ J [] W' := by
  refine callsIn_of_wp Tryz.func87 rfl hf ?_ hro
  simp only [Tryz.ntmps87,List.size_toArray,List.length_cons,List.length_nil,Nat.reduceAdd,Nat.reduceSub,Array.replicate_succ,Array.replicate_zero,List.push_toArray,List.append_toArray,List.nil_append,List.cons_append]
  gi_wp2
  gi_loopw [3] (fun i wr => i = .int .i64 (-1) ∧ J [] wr) (fun _ _ => 0)
  case atStart => exact ⟨rfl,h0⟩
  case round =>
    obtain ⟨rfl,hJs⟩ := hrel
    gi_wp2
    go_end0
    exact ⟨⟨_,rfl⟩,hJs⟩
set_option maxHeartbeats 1000000 in
theorem back_in (F : Fence) (n : Nat) (hf : F.fn 57) (hro : F.round = none) (a : Option Addr) (len cap : Nat) (w : World) :
    CallsIn F n Tryz.prog 57 #[.slice a len cap] w fun e w' => e = .returned (.func (.func 87) #[] #[.pointer (some ⟨w.heap.size,0,none⟩)]) ∧ w' = w.alloc (.cells #[.slice a len cap] 24) := by
  refine callsIn_of_wp Tryz.func57 rfl hf ?_ hro
  simp only [Tryz.ntmps57,List.size_toArray,List.length_cons,List.length_nil,Nat.reduceAdd,Nat.reduceSub,Array.replicate_succ,Array.replicate_zero,List.push_toArray,List.append_toArray,List.nil_append,List.cons_append]
  gi_wp2
  go_ret
  exact ⟨rfl,rfl⟩
/-- slices.Backward hands back what yields the words from the highest place down: all,or the first of them. -/
theorem back_stops (F : Fence) (n : Nat) (hf : F.fn 87) (hro : F.round = none) (hn : 1 ≤ n) (Bs n₀ b len cap : Nat) (l : List Int) (hm : len ≤ 140737488355328) (w : World) (hBs : Bs < n₀) (hn₀ : n₀ ≤ w.heap.size) (hb : b < n₀)
    (hc : w.cell? ⟨Bs,0,none⟩ = some (.slice (some ⟨b,0,none⟩) len cap)) (hI : ∀ j,j < len → w.cell? ⟨b,j,none⟩ = some (.int .u64 (l.getD j 0))) :
    SeqStopsK F n Tryz.prog 87 #[.pointer (some ⟨Bs,0,none⟩)] (fun x : At l len => #[Value.int .i64 (x.1.1 : Int),Value.int .u64 x.1.2]) (Below n₀) (fun ys => ys = down l len len (Nat.le_refl _))
      (fun pre => ∃ k h,pre = down l len k h) len w := fun l' J Jx W hW _ _ hY h0 => by
  refine back1_in F n hf hro hn l' Bs n₀ b len cap l hm hb J Jx hY W hBs ((hW.cell (p := ⟨Bs,0,none⟩) (by show Bs < _; omega)).trans hc) (fun j hj => (hW.cell (p := ⟨b,j,none⟩) (by show b < _; omega)).trans (hI j hj)) h0
theorem back_stops_nil (F : Fence) (n : Nat) (hf : F.fn 87) (hro : F.round = none) (Bs n₀ : Nat) (w : World) (hBs : Bs < w.heap.size) (hc : w.cell? ⟨Bs,0,none⟩ = some (.slice none 0 0)) :
    SeqStopsK F n Tryz.prog 87 #[.pointer (some ⟨Bs,0,none⟩)] (fun x : Nat × Int => #[Value.int .i64 (x.1 : Int),Value.int .u64 x.2]) (Below n₀) (fun ys => ys = []) (fun pre => pre = []) 0 w := fun l' J Jx W hW _ _ hY h0 =>
  (back1_nil_in F n hf hro l' Bs J W ((hW.cell (p := ⟨Bs,0,none⟩) hBs).trans hc) h0).mono fun e W' ⟨he,hj⟩ => ⟨he,.inl ⟨_,rfl,hj⟩⟩
end Go.Proofs.YtgccgacpifebbaaGreatDoor
namespace Go.Proofs.YtgccgacpifebbaaGreatDoor
open Go.RowKit Go.Shelf
set_option linter.unusedVariables false
attribute [local go_sem] Oper.semAt_some
section
variable {F : Fence} {n : Nat} {P : Program}
/-- N rounds,each by its number: what I says of it the iterator may lean on. -/
theorem wpIn_steps {g : Operand} {ps : Array Tmp} {assign body : Code} {Q : Exit → Act → World → Prop} {a : Act} {w : World}
    (hro : F.round = none) (h1 : 1 ≤ n) {gf : Nat} {lb : Array Value} (hg : a.eval g = .func (.func gf) #[] lb) (hFg : F.fn gf) (eg : ∀ args w,(callFunc gf args).run P w = .ok (.enter gf args) w)
    (N : Nat) (encs : Nat → Array Value) (hps : ∀ k,(encs k).size = ps.size) (I : Nat → World → Prop) (hI : OwnFrom w.heap.size I) (h0 : I 0 w)
    (hiter : ∀ (l : Nat) (J : Nat → World → Prop) (W : World),(∀ k W,J k W → I k W) → AbidesFrom W.heap.size J →
      (∀ k W1,k < N → J k W1 → YieldAt F (n - 1 - 1) P l (encs k) W1 fun e W' => e = .returned (.bool true) ∧ J (k + 1) W') → J 0 W →
      CallsIn F (n - 1) P gf (#[.func (.yield l) #[] #[]] ++ lb) W fun e W' => (∃ v,e = .returned v) ∧ J N W')
    (a₁ : Nat → Act)
    (hassign : ∀ (l k : Nat) (W : World) (K : Act → World → Prop),K (a₁ k) W →
      assign.wpIn (F.inRound l) (n - 1 - 1) P (Exit.then K (fun _ _ _ => False)) { tmps := (ps.zip (encs k)).foldl (fun t (p,v) => t.setIfInBounds p v) a.tmps,defers := [] } W)
    (hbody : ∀ (l k : Nat) (W : World),k < N → I k W → body.wpIn (F.inRound l) (n - 1 - 1) P (Exit.then (fun _ W' => KeepsFrom w.heap.size W W' ∧ I (k + 1) W') (fun _ _ _ => False)) (a₁ k) W)
    (hdone : ∀ (D : Nat) (W : World),w.heap.size ≤ D → I N W → W.heap[D]? = some (.deferred (some [])) → Q .normal { a with defers := { target := .collected D,args := #[] } :: a.defers } W) :
    (Code.rangeFunc g ps assign body).wpIn F n P Q a w := by
  refine wpIn_rangeFunc fun fn hfn => ?_
  rw [hro]
  have hT : ∀ st : LoopState,∃ r : Loop,r = { state := st,pending := none,fn := fn,tmps := a.tmps,params := ps,assign := assign,body := body,defers := w.heap.size } := fun st => ⟨_,rfl⟩
  obtain ⟨r0,hr0⟩ := hT .ready
  obtain ⟨r1,hr1⟩ := hT .busy
  obtain ⟨V,hV⟩ : ∃ V,(w.alloc (.deferred (some []))).alloc (.loop r0) = V := ⟨_,rfl⟩
  have hs : V.heap.size = w.heap.size + 2 := by rw [← hV]; simp
  have hL : V.heap[w.heap.size + 1]? = some (.loop r0) := by
    rw [← hV]; exact heap_new (w.alloc _) _ _ (by simp)
  have hD : V.heap[w.heap.size]? = some (.deferred (some [])) := by
    rw [← hV]; exact (heap_old (w.alloc _) _ _ (by simp)).trans (heap_new w _ _ rfl)
  have hI1 : I 0 V := by rw [← hV]; exact hI.alloc _ (hI.alloc _ h0)
  refine ⟨w.heap.size + 1,[{ target := .collected w.heap.size,args := #[] }],V,{ target := .fn (.func gf) lb,args := #[.func (.yield (w.heap.size + 1)) #[] #[]] },V,gf,#[.func (.yield (w.heap.size + 1)) #[] #[]] ++ lb,V,?_,?_,?_,?_,fun _ => h1,?_⟩
  · rw [← hV,hr0]; exact run_enterLoop_outer _ _ _ _ _
  · simp only [resolve,hg]
    simp [go_sem]
  · intro f' hf'
    simp [Target.leads] at hf'
    subst hf'
    exact hFg
  · simp [invoke,go_sem,eg]
  have cells : ∀ {A : World} {r : Nat} {o : Obj},V.heap.size ≤ r → A.heap[r]? = some o → o.isWalk = true → w.heap.size ≤ r ∧ ∃ o : Obj,A.heap[r]? = some o ∧ o.isCells = false := fun hB ho hw => ⟨by omega,_,ho,Obj.not_cells_of_walk hw⟩
  have it := hiter (w.heap.size + 1) (fun k W => I k W ∧ W.heap[w.heap.size + 1]? = some (.loop r0) ∧ W.heap[w.heap.size]? = some (.deferred (some []))) V (fun k W h => h.1) ?abides ?round ⟨hI1,hL,hD⟩
  case abides =>
    rintro k A B row ⟨h,hl,hd⟩ hgr hr
    refine ⟨hI k A B row h hgr (fun r e => ?_),(grownBy_keeps hgr (fun r e => (hr r e).2) hl rfl).trans hl,(grownBy_keeps hgr (fun r e => (hr r e).2) hd rfl).trans hd⟩
    obtain ⟨hB,o,ho,hw⟩ := hr r e
    exact cells hB ho hw
  case round =>
    rintro k W hk ⟨h,hl,hd⟩
    have hlt := (Array.getElem?_eq_some_iff.1 hl).1
    have hy := run_yield (P := P) (args := encs k) hl (by rw [hr0]; exact hps k)
    have hb1 := run_beginRound (P := P) hl (by rw [hr0])
    rw [hr0] at hy
    refine ⟨fn,_,assign,body,hy,roundIn_of_wpIn hfn (hassign _ k W _ ⟨_,hb1,?_⟩)⟩
    have e1 : ({ r0 with state := .busy } : Loop) = r1 := by rw [hr0,hr1]
    rw [e1]
    obtain ⟨U,hU⟩ : ∃ U,W.putObj (w.heap.size + 1) (.loop r1) = U := ⟨_,rfl⟩
    have ul : U.heap[w.heap.size + 1]? = some (.loop r1) := by rw [← hU]; exact World.putObj_heap_same hlt
    have ud : U.heap[w.heap.size]? = some (.deferred (some [])) := by rw [← hU]; exact (World.putObj_heap_other (by omega)).trans hd
    have ui : I k U := by rw [← hU]; exact hI.putObj _ h (by omega) hl rfl
    rw [hU]
    refine wpIn_mono (hbody _ k U hk ui) ?_
    intro e a3 W3 hp
    cases e with
    | normal =>
      obtain ⟨hk3,hi3⟩ := hp
      have wl := hk3.same _ _ (by omega) ul rfl
      have wd := hk3.same _ _ (Nat.le_refl _) ud rfl
      have he := run_endRound (P := P) none wl
      have e2 : ({ r1 with state := if (none : Option Code).isNone then .ready else .done,pending := none } : Loop) = r0 := by rw [hr0,hr1]; rfl
      rw [e2] at he
      exact ⟨_,_,he,rfl,hI.putObj _ hi3 (by omega) wl rfl,World.putObj_heap_same (Array.getElem?_eq_some_iff.1 wl).1,(World.putObj_heap_other (by omega)).trans wd⟩
    | ret => exact hp.elim
    | exit id => exact hp.elim
    | goto t => exact hp.elim
    | panic ch => exact hp.elim
    | outgrown => exact hp.elim
  refine it.mono ?_
  rintro e W2 ⟨⟨v,rfl⟩,hi,hl,hd⟩
  have he := run_endLoop (P := P) hl (by rw [hr0]; simp)
  rw [show r0.pending = none by rw [hr0]] at he
  refine ⟨none,_,he,hdone _ _ (Nat.le_refl _) (hI.putObj _ hi (by omega) hl rfl) ((World.putObj_heap_other (by omega)).trans hd)⟩
end
set_option maxRecDepth 100000 in
set_option maxHeartbeats 2000000 in
/-- slices.Backward,round by round: at round k the place len - 1 - k still holds the word L k. -/
theorem back_steps (F : Fence) (n : Nat) (hf : F.fn 87) (hro : F.round = none) (hn : 1 ≤ n) (l' Bs len cap : Nat) (p : Option Addr) (L : Nat → Int) (hm : len ≤ 140737488355328) (J : Nat → World → Prop)
    (hJ : ∀ k W,J k W → W.cell? ⟨Bs,0,none⟩ = some (.slice p len cap) ∧ (k < len → ∃ b,p = some ⟨b,0,none⟩ ∧ W.cell? ⟨b,len - 1 - k,none⟩ = some (.int .u64 (L k))))
    (hY : ∀ k W,k < len → J k W → YieldAt F (n - 1) Tryz.prog l' #[.int .i64 ((len - 1 - k : Nat) : Int),.int .u64 (L k)] W fun e W' => e = .returned (.bool true) ∧ J (k + 1) W')
    (W : World) (h0 : J 0 W) :
    CallsIn F n Tryz.prog 87 #[.func (.yield l') #[] #[],.pointer (some ⟨Bs,0,none⟩)] W fun e W' => (∃ v,e = .returned v) ∧ J len W' := by
  have hBs := (hJ 0 W h0).1
  refine callsIn_of_wp Tryz.func87 rfl hf ?_ hro
  simp only [Tryz.ntmps87,List.size_toArray,List.length_cons,List.length_nil,Nat.reduceAdd,Nat.reduceSub,Array.replicate_succ,Array.replicate_zero,List.push_toArray,List.append_toArray,List.nil_append,List.cons_append]
  gi_wp2
  gi_loopw [3] (fun i wr => ∃ k : Nat,k ≤ len ∧ i = .int .i64 ((len : Int) - 1 - k) ∧ J k wr) (fun i _ => (intOf i + 1).toNat)
  case atStart => exact ⟨0,Nat.zero_le _,by simp,h0⟩
  case round =>
    obtain ⟨k,hk,rfl,hJs⟩ := hrel
    by_cases hlt : k < len
    · obtain ⟨hbs,hcell⟩ := hJ k wr hJs
      obtain ⟨b,rfl,hcx⟩ := hcell hlt
      obtain ⟨fn,tmps,assign,body,hy,hR⟩ := hY k wr hlt hJs
      obtain ⟨j,hj⟩ : ∃ j : Nat,len - 1 - k = j := ⟨_,rfl⟩
      have hjl : j < len := by omega
      have hje : ((len : Int) - 1 - k) = (j : Int) := by omega
      rw [hj] at hcx hy
      generalize L k = z at hcx hy
      rw [hje]
      have Hj := Lib.hid hj
      have Hje := Lib.hid hje
      clear hj hje
      gi_wp2
      refine hR.mono ?_
      rintro e W3 ⟨rfl,hJ3⟩
      gi_wp2
      go_roundw
      case rel => exact ⟨k + 1,hlt,by have := Hje.out; congr 1; omega,hJ3⟩
      case measure => have := Hje.out; simp [intOf]
    · obtain rfl : k = len := by omega
      gi_wp2
      go_end0
      exact ⟨⟨_,rfl⟩,hJs⟩
/-- A region that draws its order,in a round too: R stands for what is to be shown of each set of operations that are through. -/
theorem region_ways {F : Fence} {n : Nat} {P : Program} {ops : Array Oper} {Q : Exit → Act → World → Prop} {id : Nat} {a : Act} {w : World} (hm : P.follows .mixedOrders = true)
    (h : ∀ R : Nat → Array Bool → Act → World → Prop,wpAnyIn F n P .any ops Q = R → R ops.size (Array.replicate ops.size false) a w.drew) : (Code.region id ops true).wpIn F n P Q a w :=
  wpIn_region_any hm (h _ rfl)
end Go.Proofs.YtgccgacpifebbaaGreatDoor
