/- Nat0 -/
import Derived.Test.YtgccgacpifebbaaGreatDoorProg
import Derived.Test.YtgccgacpifebbaaGreatDoorShelf
import Derived.Test.YtgccgacpifebbaaGreatDoorZb01
import Derived.Laws.Externs
import Derived.Lib.Hide
import Derived.BigQuiet
import Derived.Deep.QuietTactic
import Derived.LoopTactic
import Derived.RegionTactic
import Derived.BigRegion
import Derived.Laws.CopyOwn
namespace Go.Proofs.YtgccgacpifebbaaGreatDoor
open Go.RowKit
set_option linter.unusedVariables false
theorem add64 (x y c : Int) (hx : 0 ≤ x) (hy : 0 ≤ y) (hc0 : 0 ≤ c) (hc : c ≤ 1) (w : World) : (callFunc 81 #[.int .u64 x,.int .u64 y,.int .u64 c]).run Tryz.prog w =
    .ok (.value (.tuple #[.int .u64 ((x + y + c) % 18446744073709551616),.int .u64 ((x + y + c) / 18446744073709551616)])) w := by
  rw [run_callFunc_extern Tryz.func81 (by kernel_rfl) (by kernel_rfl) (by kernel_rfl) (e := add64Entry) (by kernel_rfl),run_add64 x y c hx hy hc0 hc]
  rfl
theorem eqnil (w : World) (a : Option Addr) (l c : Nat) : (binOp .eql 24 (.slice a l c) (.slice none 0 0)).run Tryz.prog w = .ok (.bool a.isNone) w := Lib.run_eql_slice_nil w _ _ a l c 0 0 Tryz.underlying24
theorem neqnil (w : World) (a : Option Addr) (l c : Nat) : (binOp .neq 24 (.slice a l c) (.slice none 0 0)).run Tryz.prog w = .ok (.bool (!a.isNone)) w := run_neq_slice_nil_any w _ _ a l c 0 0 Tryz.underlying24
theorem bitLen_le {x : Int} (h : x < 18446744073709551616) : Lib.bitLen x.toNat ≤ 64 := Lib.bitLen_le x.toNat 64 (by decide) (by omega)
theorem of_any (n : Int) (w : World) :
    Calls Tryz.prog 48 #[.int .u64 n] w fun e w' => e = .returned (.agg #[.int .u64 n,.slice none 0 0]) ∧ Below w.heap.size w w' := by
  go_enter Tryz.func48,Tryz.ntmps48
  go_wp2
  go_returns
  exact ⟨rfl,by go_grown⟩
theorem pair_zero (lo : Int) (w : World) :
    Calls Tryz.prog 77 #[.int .u64 0,.int .u64 lo] w fun e w' => e = .returned (.agg #[.int .u64 lo,.slice none 0 0]) ∧ Below w.heap.size w w' := by
  go_enter Tryz.func77,Tryz.ntmps77
  go_wp2
  go_returns
  exact ⟨rfl,by go_grown⟩
theorem pair_two (hi lo : Int) (h : (hi == 0) = false) (w : World) :
    Calls Tryz.prog 77 #[.int .u64 hi,.int .u64 lo] w fun e w' => e = .returned (.agg #[.int .u64 0,.slice (some ⟨w.heap.size + 1,0,none⟩) 2 2]) ∧ Below w.heap.size w w' ∧ Arr w' (w.heap.size + 1) 23 .u64 [lo,hi] := by
  go_enter Tryz.func77,Tryz.ntmps77
  go_wp2
  go_returns
  exact ⟨rfl,by go_grown,Arr.new _ _ _ [lo,hi] _ (by simp)⟩
theorem small_word (n : Int) (w : World) :
    Calls Tryz.prog 47 #[.agg #[.int .u64 n,.slice none 0 0]] w fun e w' => e = .returned (.tuple #[.int .u64 n,.bool true]) ∧ Below w.heap.size w w' := by
  have e1 := eqnil
  go_enter Tryz.func47,Tryz.ntmps47
  go_wp2
  go_quiet (fail)
  go_wp2
  go_ret2
  exact ⟨rfl,below_drewN (by go_grown) _⟩
theorem small_many (a : Addr) (l c : Nat) (w : World) :
    Calls Tryz.prog 47 #[.agg #[.int .u64 0,.slice (some a) l c]] w fun e w' => e = .returned (.tuple #[.int .u64 0,.bool false]) ∧ Below w.heap.size w w' := by
  have e1 := eqnil
  go_enter Tryz.func47,Tryz.ntmps47
  go_wp2
  go_quiet (fail)
  go_wp2
  go_ret2
  exact ⟨rfl,below_drewN (by go_grown) _⟩
theorem bits_word (n : Int) (hn : Word n) (w : World) :
    Calls Tryz.prog 55 #[.agg #[.int .u64 n,.slice none 0 0]] w fun e w' => e = .returned (.int .i64 (Lib.bitLen n.toNat)) ∧ Below w.heap.size w w' := by
  have e1 := eqnil
  obtain ⟨h0,h1⟩ := hn
  go_enter Tryz.func55,Tryz.ntmps55
  go_wp2_with (go_at_call 85; refine (Tryz.bits_Len64 n _ h0 (by omega)).mono ?_; rintro e w' ⟨rfl,rfl⟩)
  go_ret
  exact ⟨rfl,by go_grown⟩
theorem bits_many (b : Nat) (t : TypeId) (len cap : Nat) (l : List Int) (w : World) (ha : Arr w b t .u64 l) (h2 : 2 ≤ len) (hl : len ≤ l.length) (hm : len ≤ 140737488355328) (hw : Words l) :
    Calls Tryz.prog 55 #[.agg #[.int .u64 0,.slice (some ⟨b,0,none⟩) len cap]] w fun e w' => e = .returned (.int .i64 (((len - 1) * 64 + Lib.bitLen (l.getD (len - 1) 0).toNat : Nat))) ∧ Below w.heap.size w w' := by
  have e1 := eqnil
  obtain ⟨k,rfl⟩ : ∃ k,len = k + 1 := ⟨len - 1,by omega⟩
  rw [Nat.add_sub_cancel]
  have hx := hw.getD k
  have hc := (ha.alloc (.cells #[Value.int .u64 0,.slice (some ⟨b,0,none⟩) (k + 1) cap] 26)).cell k (by omega)
  generalize l.getD k 0 = x at hx hc ⊢
  obtain ⟨h0,h1⟩ := hx
  have hB : Lib.bitLen x.toNat ≤ 64 := bitLen_le h1
  generalize hv : Lib.bitLen x.toNat = v at hB ⊢
  have Hv := Lib.hid hv
  clear hv
  go_enter Tryz.func55,Tryz.ntmps55
  go_wp2_with (go_at_call 85; refine (Tryz.bits_Len64 _ _ h0 (by omega)).mono ?_; rintro e w' ⟨rfl,rfl⟩; rw [Hv.out])
  go_ret
  exact ⟨by congr 2,by go_grown⟩
theorem heap_new (w : World) (o : Obj) (c : Nat) (h : c = w.heap.size) : (w.alloc o).heap[c]? = some o := by subst h; exact _root_.Go.heap_alloc_new w o
theorem heap_old (w : World) (o : Obj) (c : Nat) (h : c < w.heap.size) : (w.alloc o).heap[c]? = w.heap[c]? := heap_alloc_old w o h
/-- A number that was stored into the result's variable is returned. -/
theorem bodyPost_nat {fn : Func} {p : Tmp} (h : fn.results = #[.cell p 26]) {w W w' : World} {a : Act} {x y x0 : Value} {p0 : Option Addr} {l0 c0 : Nat} {n : Int} {c : Nat} (hd : a.defers = []) (hp : a.tmps.getD p undef = .pointer (some ⟨c,0,none⟩))
    (h0 : Below w.heap.size w W) (hb : Below W.heap.size W w') (hv : IsNat w' (.agg #[x,y]) n) (hg : W.heap[c]? = some (.cells #[x0,.slice p0 l0 c0] 26 (0,0))) (hcw : w.heap.size ≤ c) :
    bodyPost Tryz.prog fn (RetNat n w) .ret a ((w'.setCell ⟨c,0,none⟩ x).setCell ⟨c,1,none⟩ y) := by
  have hlt : c < W.heap.size := (Array.getElem?_eq_some_iff.1 hg).1
  have hg' : w'.heap[c]? = some (.cells #[x0,.slice p0 l0 c0] 26 (0,0)) := (hb.block c hlt).trans hg
  have h1 := heap_setCell_same w' c 0 _ _ x hg'
  have h2 := heap_setCell_same _ c 1 _ _ y h1
  refine bodyPost_ret (v := .agg #[x,y]) ?_ hd (RetNat.stored h0 hb hv (c := c) (p := p0) (m := l0) (q := c0) ?_ hcw x y)
  · exact results_cell_row h a.tmps _ c _ _ (0,0) _ hp h2 Tryz.underlying26 rfl (by kernel_rfl)
  · rw [cell_of_row w' c 1 _ _ (0,0) hg']; rfl
end Go.Proofs.YtgccgacpifebbaaGreatDoor
namespace Go.Proofs.YtgccgacpifebbaaGreatDoor
open Go.RowKit
set_option linter.unusedVariables false
/-- How many of the first n words are left without the noughts at their end. -/
def trimLen (l : List Int) : Nat → Nat
  | 0 => 0
  | n + 1 => if l.getD n 0 = 0 then trimLen l n else n + 1
theorem trimLen_zero {l : List Int} {n : Nat} (h : l.getD n 0 = 0) : trimLen l (n + 1) = trimLen l n := by simp only [trimLen]; rw [if_pos h]
theorem trimLen_stop {l : List Int} {n : Nat} (h : l.getD n 0 ≠ 0) : trimLen l (n + 1) = n + 1 := by simp only [trimLen]; rw [if_neg h]
theorem trimLen_le (l : List Int) : ∀ n,trimLen l n ≤ n
  | 0 => Nat.le_refl _
  | n + 1 => by
    have := trimLen_le l n
    by_cases h : l.getD n 0 = 0
    · rw [trimLen_zero h]; omega
    · rw [trimLen_stop h]; exact Nat.le_refl _
theorem trimLen_last (l : List Int) : ∀ n,trimLen l n ≠ 0 → l.getD (trimLen l n - 1) 0 ≠ 0
  | 0 => fun h => absurd rfl h
  | n + 1 => by
    by_cases h : l.getD n 0 = 0
    · rw [trimLen_zero h]; exact trimLen_last l n
    · rw [trimLen_stop h]; intro _; exact h
theorem val_trim (l : List Int) : ∀ n,n ≤ l.length → val (l.take (trimLen l n)) = val (l.take n)
  | 0,_ => rfl
  | n + 1,hn => by
    by_cases h : l.getD n 0 = 0
    · rw [trimLen_zero h,val_trim l n (by omega),val_take_succ (by omega),h]; omega
    · rw [trimLen_stop h]
set_option maxHeartbeats 400000 in
theorem trim_any (b : Nat) (t : TypeId) (len cap : Nat) (l : List Int) (w : World) (ha : Arr w b t .u64 l) (hl : len ≤ cap) (hc : cap ≤ l.length) (hm : len ≤ 140737488355328) :
    Calls Tryz.prog 104 #[.slice (some ⟨b,0,none⟩) len cap] w fun e w' => e = .returned (.slice (some ⟨b,0,none⟩) (trimLen l len) cap) ∧ w = w' := by
  go_enter Tryz.func104,Tryz.ntmps104
  go_wp2
  go_loop [3] (fun i => ∃ k : Nat,k ≤ len ∧ i = .int .i64 k ∧ trimLen l len = trimLen l k) (fun i => (intOf i).toNat)
  case atStart => exact ⟨len,Nat.le_refl _,rfl,rfl⟩
  case round =>
    obtain ⟨k,hk,rfl,he⟩ := hrel
    have He := Lib.hid he
    clear he
    cases k with
    | zero =>
      go_wp2
      go_ret
      exact ⟨by rw [He.out]; rfl,rfl⟩
    | succ k =>
      have hcell := ha.cell k (by omega)
      by_cases hz : l.getD k 0 = 0
      · rw [hz] at hcell
        have Hz := Lib.hid hz
        clear hz
        go_wp2
        exact ⟨⟨k,by omega,rfl,by rw [He.out,trimLen_zero Hz.out]⟩,by simp [intOf]⟩
      · have hz' : (l.getD k 0 == 0) = false := by simpa using hz
        have Hz := Lib.hid hz
        clear hz
        generalize l.getD k 0 = x at hcell hz'
        go_wp2
        go_ret
        exact ⟨by rw [He.out,trimLen_stop Hz.out]; rfl,rfl⟩
set_option maxHeartbeats 400000 in
theorem made_any (b : Nat) (t : TypeId) (len cap : Nat) (l : List Int) (w : World) (ha : Arr w b t .u64 l) (hl : len ≤ cap) (hc : cap ≤ l.length) (hm : len ≤ 140737488355328) (hw : Words l) :
    Calls Tryz.prog 79 #[.slice (some ⟨b,0,none⟩) len cap] w (RetNat (val (l.take len)) w) := by
  have h1 := trimLen_le l len
  have h2 := trimLen_last l len
  have h3 := val_trim l len (by omega)
  have tr := fun w' (h : Arr w' b t .u64 l) => trim_any b t len cap l w' h hl hc hm
  generalize trimLen l len = m at h1 h2 h3 tr
  have H2 := Lib.hid h2
  have H3 := Lib.hid h3
  have Tr := Lib.hid tr
  clear h2 h3 tr
  match m,h1,H2,H3,Tr with
  | 0,h1,H2,H3,Tr =>
    go_enter Tryz.func79,Tryz.ntmps79
    go_wp2_with (go_at_call 104; refine (Tr.out _ (ha.alloc _)).mono ?_; rintro e w' ⟨rfl,rfl⟩)
    go_returns
    rw [← H3.out]
    exact ⟨_,rfl,IsNat.word ⟨by decide,by decide⟩,by go_grown⟩
  | 1,h1,H2,H3,Tr =>
    have hcell := (ha.alloc (.cells #[Value.int .u64 0,.slice none 0 0] 26)).cell 0 (by omega)
    have hx := hw.getD 0
    have H4 : Hid (l.getD 0 0 = val (l.take 1)) := by
      cases l with
      | nil => simp at hc; omega
      | cons x l => simp [Hid,val]
    generalize l.getD 0 0 = x at hcell hx H4
    go_enter Tryz.func79,Tryz.ntmps79
    go_wp2_with (go_at_call 104; refine (Tr.out _ (ha.alloc _)).mono ?_; rintro e w' ⟨rfl,rfl⟩)
    go_returns
    rw [← H3.out,← H4.out]
    exact ⟨_,rfl,IsNat.word hx,by go_grown⟩
  | m + 2,h1,H2,H3,Tr =>
    have e0 : (((m + 2 : Nat) : Int) == 0) = false := by simp; omega
    have e1 : (((m + 2 : Nat) : Int) == 1) = false := by simp; omega
    go_enter Tryz.func79,Tryz.ntmps79
    go_wp2_with (go_at_call 104; refine (Tr.out _ (ha.alloc _)).mono ?_; rintro e w' ⟨rfl,rfl⟩)
    go_returns
    rw [← H3.out]
    refine ⟨_,rfl,.inr ⟨b,t,m + 2,cap,l,rfl,?_,by omega,by omega,hc,by omega,hw,H2.out (by omega),rfl⟩,by go_grown⟩
    exact ha.alloc _
end Go.Proofs.YtgccgacpifebbaaGreatDoor
namespace Go.Proofs.YtgccgacpifebbaaGreatDoor
open Go.RowKit
set_option linter.unusedVariables false
theorem words_many (b : Nat) (len cap : Nat) (r : Value) (w : World) :
    Calls Tryz.prog 72 #[.agg #[.int .u64 0,.slice (some ⟨b,0,none⟩) len cap],r] w fun e w' => e = .returned (.slice (some ⟨b,0,none⟩) len cap) ∧ Below w.heap.size w w' := by
  have e1 := neqnil
  go_enter Tryz.func72,Tryz.ntmps72
  go_wp2
  go_ret
  exact ⟨rfl,by go_grown⟩
set_option maxHeartbeats 400000 in
theorem words_word (n : Int) (hn : Word n) (rb : Nat) (t : TypeId) (r0 : Int) (w : World) (ha : Arr w rb t .u64 [r0]) :
    Calls Tryz.prog 72 #[.agg #[.int .u64 n,.slice none 0 0],.pointer (some ⟨rb,0,none⟩)] w fun e w' => e = .returned (.slice (some ⟨rb,0,none⟩) (trimLen [n] 1) 1) ∧ Arr w' rb t .u64 [n] ∧ w.grownBy w' (some rb) := by
  have e1 := neqnil
  have hlt := ha.lt
  have hf := ha.free 0
  have hcell := ha.cell 0 (by simp)
  go_enter Tryz.func72,Tryz.ntmps72
  go_wp2
  go_region
  all_goals
    go_wp2_with (go_at_call 104; refine (trim_any rb t 1 1 [n] _ ?_ (by omega) (by simp) (by simp)).mono ?_; rotate_left; rintro e w' ⟨rfl,rfl⟩)
  · go_ret
    exact ⟨rfl,(ha.set 0 n).alloc _,grownBy_trans (grownBy_set _ _ _ _) (grownBy_trans (World.grownBy_alloc _ _ _) (grownBy_drew _ _))⟩
  · exact (ha.set 0 n).alloc _
end Go.Proofs.YtgccgacpifebbaaGreatDoor
namespace Go.Proofs.YtgccgacpifebbaaGreatDoor
open Go.RowKit
set_option linter.unusedVariables false
theorem wpList_copy_arr {P : Program} {w : World} {ops : Array Oper} {rest : List Oper} {o : Oper} {a : Act} {Q : Exit → Act → World → Prop} (hgd : o.guard = none) (d s : Operand) (dT sT : TypeId)
    (ho : o.op = .call { callee := .builtin .copy,args := #[d,s],argTypes := #[dT,sT] }) (elem : TypeId) (hu : P.underlying dT = some (.slice elem)) (hsz : (P.info? elem).map (·.size) = some 1)
    (g off dLen dCap sb so sLen sCap : Nat) (hd : a.eval d = .slice (some ⟨g,off,none⟩) dLen dCap) (hs : a.eval s = .slice (some ⟨sb,so,none⟩) sLen sCap)
    (t st : TypeId) (k : IntKind) (cur src : List Int) (hg : Arr w g t k cur) (hsrc : Arr w sb st k src) (hle : sLen ≤ dLen) (hso : so + sLen ≤ src.length) (hfit : off + sLen ≤ cur.length)
    (h : ∀ w',Hid (Arr w' g t k (splice cur off ((src.drop so).take sLen))) → w.grownBy w' (some g) → wpList P ops Q rest (a.put o.dst (goInt sLen)) w') : wpList P ops Q (o :: rest) a w := by
  have hl : (((src.drop so).take sLen).map (Value.int k)).length = sLen := by simp; omega
  refine wpList_copy_own hgd d s dT sT ho elem hu hsz g off dLen dCap ⟨sb,so,none⟩ sLen sCap hd hs _ t hg (((src.drop so).take sLen).map (Value.int k)) (by rw [hl]; exact (Nat.min_eq_left hle).symm) ?_ (by rw [hl]; simpa using hfit) ?_ ?_
  · intro j v hv
    have hj : j < sLen := by
      have := (List.getElem?_eq_some_iff.1 hv).1
      omega
    have hadd : (⟨sb,so,none⟩ : Addr).add j = ⟨sb,so + j,none⟩ := by unfold Addr.add; split <;> simp_all
    rw [hadd,hsrc.cell (so + j) (by omega)]
    simp only [List.getElem?_map,List.getElem?_take,if_pos hj,List.getElem?_drop] at hv
    rw [List.getElem?_eq_getElem (by omega)] at hv
    rw [← hv,List.getD_eq_getElem?_getD,List.getElem?_eq_getElem (by omega)]
    rfl
  · intro v hv
    obtain ⟨x,_,rfl⟩ := List.mem_map.1 hv
    rfl
  · rw [hl]
    refine h _ ?_ ⟨rfl,rfl,rfl,by simp [World.setRow],fun i _ hi => setRow_other w g i _ (fun e => hi (by rw [e]))⟩
    have he := setRow_heap w g _ (List.take off (List.map (Value.int k) cur).toArray.toList ++ (((src.drop so).take sLen).map (Value.int k) ++ List.drop (off + sLen) (List.map (Value.int k) cur).toArray.toList)).toArray t (0,0) hg
    refine Eq.trans he ?_
    have hl2 : ((src.drop so).take sLen).length = sLen := by simpa using hl
    simp [splice,hl2,List.map_append,List.map_take,List.map_drop]
/-- n words of 0,as cells. -/
def zeros (k : IntKind) (n : Nat) : Array Value := ((List.replicate n (0 : Int)).map (Value.int k)).toArray
theorem madeCells_zeros (k : IntKind) (n : Nat) : madeCells #[.int k 0] n = zeros k n := by
  have h := toList_madeCells_one (.int k 0) n
  rw [← Array.toList_inj,h]
  simp [zeros]
theorem Arr.zeros (w : World) (t : TypeId) (k : IntKind) (n b : Nat) (hb : b = w.heap.size) : Arr (w.alloc (.cells (zeros k n) t)) b t k (List.replicate n 0) := Arr.new w t k _ b hb
theorem info64 : (Tryz.prog.info? 23).map (fun i => (i.zero,i.size,i.bytes)) = some (some (.int .u64 0),1,8) := by kernel_rfl
theorem make64 (n : Nat) (i : Int) (hi : i = n) (hn : n ≤ 35184372088832) (w : World) :
    (Instr.makeSlice 24 (.int .i64 i) (.int .i64 i)).run Tryz.prog w = .ok (.slice (some ⟨w.heap.size,0,none⟩) n n) (w.alloc (.cells (zeros .u64 n) 23)) := by
  subst hi
  obtain ⟨i0,hi,hz0,hz1,hz2⟩ := info_parts info64
  have hr := run_make (P := Tryz.prog) w 24 23 i0 _ Tryz.underlying24 hi hz0 .i64 .i64 n n (by omega) (Int.le_refl _) (by rw [hz2]; omega) (by omega)
  rw [hr,Int.toNat_natCast,hz1,Nat.mul_one]
  show Result.ok _ (w.alloc (.cells (madeCells #[.int .u64 0] n) 23)) = _
  rw [madeCells_zeros]
end Go.Proofs.YtgccgacpifebbaaGreatDoor
