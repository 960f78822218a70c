/- abaculushand.Few of any bytes, of at most so many: new memory; what came in as bytes. -/
import Derived.Test.YtkggglhnhlclmaaDoorBs
import Derived.Test.YtkggglhnhlclmaaDoorAppKept
import Derived.Deep.AppendSrc
namespace Go.Proofs.YtkggglhnhlclmaaDoor
open Go.RowKit
set_option linter.unusedVariables false

theorem info8' : (Tryd.prog.info? 5).map (fun i => (i.zero, i.size, i.bytes)) = some (some (.int .u8 0), 1, 1) := by kernel_rfl
theorem Bs.src {w : World} {v : Value} {l : List Int} (h : Bs w v l) : Src Tryd.prog 1 22 v l.length (l.map (Value.int .u8)) w := by
  obtain ⟨p, c, rfl, h1, h2, ho, h4⟩ := h
  by_cases h0 : 0 < l.length
  · obtain ⟨g, off, rfl, hc⟩ := h4 h0
    refine Src.ofSlice w Tryd.underlying22 ⟨g, off, none⟩ l.length c _ (by simp) (fun j u hj => ?_) (fun u hu => ?_)
    · have hadd : (⟨g, off, none⟩ : Addr).add j = ⟨g, off + j, none⟩ := by unfold Addr.add; split <;> simp_all
      have hjl : j < l.length := by
        have := (List.getElem?_eq_some_iff.1 hj).1
        simpa using this
      rw [hadd, hc j hjl, ← hj, List.getElem?_map, List.getD_eq_getElem?_getD, List.getElem?_eq_getElem hjl]
      rfl
    · obtain ⟨y, _, rfl⟩ := List.mem_map.1 hu
      rfl
  · have e : l = [] := List.eq_nil_of_length_eq_zero (by omega)
    subst e
    rcases p with _ | a
    · exact Src.ofNil w Tryd.underlying22 c
    · exact Src.ofSlice w Tryd.underlying22 a 0 c [] (by simp) (fun j u hj => by simp at hj) (fun u hu => by simp at hu)
end Go.Proofs.YtkggglhnhlclmaaDoor
