/- Memory laws in the words of XArr: copy, make over rows of integers. -/
import Derived.Test.YtjaepdjidfhamaaDoorWords
import Derived.Laws.CopyOwn
namespace Go.Proofs.YtjaepdjidfhamaaDoor
open Go.RowKit
set_option linter.unusedVariables false

theorem wpList_copy_arr {P : Program} {w : World} {ops : Array Oper} {rest : List Oper} {o : Oper} {a : Act} {Q : Exit → Act → World → Prop} (hgd : o.guard = none) (d s : Operand) (dT sT : TypeId)
    (ho : o.op = .call { callee := .builtin .copy, args := #[d, s], argTypes := #[dT, sT] }) (elem : TypeId) (hu : P.underlying dT = some (.slice elem)) (hsz : (P.info? elem).map (·.size) = some 1)
    (g off dLen dCap sb so sLen sCap : Nat) (hd : a.eval d = .slice (some ⟨g, off, none⟩) dLen dCap) (hs : a.eval s = .slice (some ⟨sb, so, none⟩) sLen sCap)
    (t st : TypeId) (k : IntKind) (cur src : List Int) (hg : Arr w g t k cur) (hsrc : Arr w sb st k src) (hle : sLen ≤ dLen) (hso : so + sLen ≤ src.length) (hfit : off + sLen ≤ cur.length)
    (h : ∀ w', Hid (Arr w' g t k (splice cur off ((src.drop so).take sLen))) → w.grownBy w' (some g) → wpList P ops Q rest (a.put o.dst (goInt sLen)) w') : wpList P ops Q (o :: rest) a w := by
  have hl : (((src.drop so).take sLen).map (Value.int k)).length = sLen := by simp; omega
  refine wpList_copy_own hgd d s dT sT ho elem hu hsz g off dLen dCap ⟨sb, so, none⟩ sLen sCap hd hs _ t hg (((src.drop so).take sLen).map (Value.int k)) (by rw [hl]; exact (Nat.min_eq_left hle).symm) ?_ (by rw [hl]; simpa using hfit) ?_ ?_
  · intro j v hv
    have hj : j < sLen := by
      have := (List.getElem?_eq_some_iff.1 hv).1
      omega
    have hadd : (⟨sb, so, none⟩ : Addr).add j = ⟨sb, so + j, none⟩ := by unfold Addr.add; split <;> simp_all
    rw [hadd, hsrc.cell (so + j) (by omega)]
    simp only [List.getElem?_map, List.getElem?_take, if_pos hj, List.getElem?_drop] at hv
    rw [List.getElem?_eq_getElem (by omega)] at hv
    rw [← hv, List.getD_eq_getElem?_getD, List.getElem?_eq_getElem (by omega)]
    rfl
  · intro v hv
    obtain ⟨x, _, rfl⟩ := List.mem_map.1 hv
    rfl
  · rw [hl]
    refine h _ ?_ ⟨rfl, rfl, rfl, by simp [World.setRow], fun i _ hi => setRow_other w g i _ (fun e => hi (by rw [e]))⟩
    have he := setRow_heap w g _ (List.take off (List.map (Value.int k) cur).toArray.toList ++ (((src.drop so).take sLen).map (Value.int k) ++ List.drop (off + sLen) (List.map (Value.int k) cur).toArray.toList)).toArray t (0, 0) hg
    refine Eq.trans he ?_
    have hl2 : ((src.drop so).take sLen).length = sLen := by simpa using hl
    simp [splice, hl2, List.map_append, List.map_take, List.map_drop]

/-- n words of 0, as cells. -/
def zeros (k : IntKind) (n : Nat) : Array Value := ((List.replicate n (0 : Int)).map (Value.int k)).toArray
theorem madeCells_zeros (k : IntKind) (n : Nat) : madeCells #[.int k 0] n = zeros k n := by
  have h := toList_madeCells_one (.int k 0) n
  rw [← Array.toList_inj, h]
  simp [zeros]
theorem Arr.zeros (w : World) (t : TypeId) (k : IntKind) (n b : Nat) (hb : b = w.heap.size) : Arr (w.alloc (.cells (zeros k n) t)) b t k (List.replicate n 0) := Arr.new w t k _ b hb

theorem info64 : (Tryd.prog.info? 22).map (fun i => (i.zero, i.size, i.bytes)) = some (some (.int .u64 0), 1, 8) := by kernel_rfl
theorem make64 (n : Nat) (i : Int) (hi : i = n) (hn : n ≤ 35184372088832) (w : World) :
    (Instr.makeSlice 23 (.int .i64 i) (.int .i64 i)).run Tryd.prog w = .ok (.slice (some ⟨w.heap.size, 0, none⟩) n n) (w.alloc (.cells (zeros .u64 n) 22)) := by
  subst hi
  obtain ⟨i0, hi, hz0, hz1, hz2⟩ := info_parts info64
  have hr := run_make (P := Tryd.prog) w 23 22 i0 _ Tryd.underlying23 hi hz0 .i64 .i64 n n (by omega) (Int.le_refl _) (by rw [hz2]; omega) (by omega)
  rw [hr, Int.toNat_natCast, hz1, Nat.mul_one]
  show Result.ok _ (w.alloc (.cells (madeCells #[.int .u64 0] n) 22)) = _
  rw [madeCells_zeros]
end Go.Proofs.YtjaepdjidfhamaaDoor
