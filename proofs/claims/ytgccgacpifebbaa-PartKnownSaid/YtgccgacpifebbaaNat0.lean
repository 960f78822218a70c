/- Contracts of the leaves of package nat: Of,pair,Small,Bits; the carry laws of math/bits. Contracts of nat.trim and nat.made: words without the noughts at their end,and the number that they make. Contracts of (Nat).words: a number's words. Memory laws in the words of XArr: copy,make over rows of integers. -/
import Derived.Test.YtgccgacpifebbaaProg
import Derived.Test.YtgccgacpifebbaaShelf
import Derived.Test.YtgccgacpifebbaaArr
import Derived.Laws.Externs
import Derived.Lib.Hide
import Derived.BigQuiet
import Derived.Deep.QuietTactic
import Derived.LoopTactic
import Derived.RegionTactic
import Derived.BigRegion
import Derived.Laws.CopyOwn
namespace Go.Proofs.Ytgccgacpifebbaa
open Go.RowKit
set_option linter.unusedVariables false

theorem bitLen_le {x : Int} (h : x < 18446744073709551616) : Lib.bitLen x.toNat ≤ 64 := Lib.bitLen_le x.toNat 64 (by decide) (by omega)

theorem heap_new (w : World) (o : Obj) (c : Nat) (h : c = w.heap.size) : (w.alloc o).heap[c]? = some o := by subst h; exact _root_.Go.heap_alloc_new w o
theorem heap_old (w : World) (o : Obj) (c : Nat) (h : c < w.heap.size) : (w.alloc o).heap[c]? = w.heap[c]? := heap_alloc_old w o h
end Go.Proofs.Ytgccgacpifebbaa

namespace Go.Proofs.Ytgccgacpifebbaa
open Go.RowKit
set_option linter.unusedVariables false

/-- How many of the first n words are left without the noughts at their end. -/
def trimLen (l : List Int) : Nat → Nat
  | 0 => 0
  | n + 1 => if l.getD n 0 = 0 then trimLen l n else n + 1
theorem trimLen_zero {l : List Int} {n : Nat} (h : l.getD n 0 = 0) : trimLen l (n + 1) = trimLen l n := by simp only [trimLen]; rw [if_pos h]
theorem trimLen_stop {l : List Int} {n : Nat} (h : l.getD n 0 ≠ 0) : trimLen l (n + 1) = n + 1 := by simp only [trimLen]; rw [if_neg h]
theorem trimLen_le (l : List Int) : ∀ n,trimLen l n ≤ n
  | 0 => Nat.le_refl _
  | n + 1 => by
    have := trimLen_le l n
    by_cases h : l.getD n 0 = 0
    · rw [trimLen_zero h]; omega
    · rw [trimLen_stop h]; exact Nat.le_refl _
theorem trimLen_last (l : List Int) : ∀ n,trimLen l n ≠ 0 → l.getD (trimLen l n - 1) 0 ≠ 0
  | 0 => fun h => absurd rfl h
  | n + 1 => by
    by_cases h : l.getD n 0 = 0
    · rw [trimLen_zero h]; exact trimLen_last l n
    · rw [trimLen_stop h]; intro _; exact h
theorem val_trim (l : List Int) : ∀ n,n ≤ l.length → val (l.take (trimLen l n)) = val (l.take n)
  | 0,_ => rfl
  | n + 1,hn => by
    by_cases h : l.getD n 0 = 0
    · rw [trimLen_zero h,val_trim l n (by omega),val_take_succ (by omega),h]; omega
    · rw [trimLen_stop h]

end Go.Proofs.Ytgccgacpifebbaa

namespace Go.Proofs.Ytgccgacpifebbaa
open Go.RowKit
set_option linter.unusedVariables false

end Go.Proofs.Ytgccgacpifebbaa

namespace Go.Proofs.Ytgccgacpifebbaa
open Go.RowKit
set_option linter.unusedVariables false

theorem wpList_copy_arr {P : Program} {w : World} {ops : Array Oper} {rest : List Oper} {o : Oper} {a : Act} {Q : Exit → Act → World → Prop} (hgd : o.guard = none) (d s : Operand) (dT sT : TypeId)
    (ho : o.op = .call { callee := .builtin .copy,args := #[d,s],argTypes := #[dT,sT] }) (elem : TypeId) (hu : P.underlying dT = some (.slice elem)) (hsz : (P.info? elem).map (·.size) = some 1)
    (g off dLen dCap sb so sLen sCap : Nat) (hd : a.eval d = .slice (some ⟨g,off,none⟩) dLen dCap) (hs : a.eval s = .slice (some ⟨sb,so,none⟩) sLen sCap)
    (t st : TypeId) (k : IntKind) (cur src : List Int) (hg : Arr w g t k cur) (hsrc : Arr w sb st k src) (hle : sLen ≤ dLen) (hso : so + sLen ≤ src.length) (hfit : off + sLen ≤ cur.length)
    (h : ∀ w',Hid (Arr w' g t k (splice cur off ((src.drop so).take sLen))) → w.grownBy w' (some g) → wpList P ops Q rest (a.put o.dst (goInt sLen)) w') : wpList P ops Q (o :: rest) a w := by
  have hl : (((src.drop so).take sLen).map (Value.int k)).length = sLen := by simp; omega
  refine wpList_copy_own hgd d s dT sT ho elem hu hsz g off dLen dCap ⟨sb,so,none⟩ sLen sCap hd hs _ t hg (((src.drop so).take sLen).map (Value.int k)) (by rw [hl]; exact (Nat.min_eq_left hle).symm) ?_ (by rw [hl]; simpa using hfit) ?_ ?_
  · intro j v hv
    have hj : j < sLen := by
      have := (List.getElem?_eq_some_iff.1 hv).1
      omega
    have hadd : (⟨sb,so,none⟩ : Addr).add j = ⟨sb,so + j,none⟩ := by unfold Addr.add; split <;> simp_all
    rw [hadd,hsrc.cell (so + j) (by omega)]
    simp only [List.getElem?_map,List.getElem?_take,if_pos hj,List.getElem?_drop] at hv
    rw [List.getElem?_eq_getElem (by omega)] at hv
    rw [← hv,List.getD_eq_getElem?_getD,List.getElem?_eq_getElem (by omega)]
    rfl
  · intro v hv
    obtain ⟨x,_,rfl⟩ := List.mem_map.1 hv
    rfl
  · rw [hl]
    refine h _ ?_ ⟨rfl,rfl,rfl,by simp [World.setRow],fun i _ hi => setRow_other w g i _ (fun e => hi (by rw [e]))⟩
    have he := setRow_heap w g _ (List.take off (List.map (Value.int k) cur).toArray.toList ++ (((src.drop so).take sLen).map (Value.int k) ++ List.drop (off + sLen) (List.map (Value.int k) cur).toArray.toList)).toArray t (0,0) hg
    refine Eq.trans he ?_
    have hl2 : ((src.drop so).take sLen).length = sLen := by simpa using hl
    simp [splice,hl2,List.map_append,List.map_take,List.map_drop]

/-- n words of 0,as cells. -/
def zeros (k : IntKind) (n : Nat) : Array Value := ((List.replicate n (0 : Int)).map (Value.int k)).toArray
theorem madeCells_zeros (k : IntKind) (n : Nat) : madeCells #[.int k 0] n = zeros k n := by
  have h := toList_madeCells_one (.int k 0) n
  rw [← Array.toList_inj,h]
  simp [zeros]
theorem Arr.zeros (w : World) (t : TypeId) (k : IntKind) (n b : Nat) (hb : b = w.heap.size) : Arr (w.alloc (.cells (zeros k n) t)) b t k (List.replicate n 0) := Arr.new w t k _ b hb

theorem info64 : (Try.prog.info? 24).map (fun i => (i.zero,i.size,i.bytes)) = some (some (.int .u64 0),1,8) := by kernel_rfl
end Go.Proofs.Ytgccgacpifebbaa
