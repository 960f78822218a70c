/- append to a slice that is full: new memory. -/
import Derived.Test.YtkggglhnhlclmaaDoorOctI
import Derived.Lib.SlBytesConst
import Derived.Laws.BytesArg
namespace Go.Proofs.YtkggglhnhlclmaaDoor
open Go.RowKit
set_option linter.unusedVariables false

theorem app_full {w : World} {p : Option Addr} {n : Nat} {x : Value} {xs l : List Int} (h : Bs w (.slice p n n) xs) (hx : Bs w x l) (h0 : 1 ≤ l.length) (hm : n + l.length ≤ 4294967296) :
    ∃ v' w', (Builtin.append_ #[22, 22] 22 #[.slice p n n, x]).run Tryd.prog w = .ok v' w' ∧ Own w' w.heap.size .u8 5 v' (xs ++ l) ∧ Below w.heap.size w w' := by
  obtain ⟨hl, _, _⟩ := h.len
  obtain ⟨i, hi, hz, hsz, hb⟩ := info_parts info8'
  have hs := hx.src
  have hcells : (Builtin.firstCells i.size n (.slice p n n)).run Tryd.prog w.drew = .ok (xs.map (Value.int .u8)).toArray w.drew := by
    rcases Nat.eq_zero_or_pos n with rfl | hn
    · have e : xs = [] := List.eq_nil_of_length_eq_zero hl
      subst e
      rcases p with _ | a
      · exact run_firstCells_none w.drew i.size 0 0 0
      · exact run_firstCells_some (P := Tryd.prog) w.drew i.size 0 _ _ _ _ (by rw [Nat.zero_mul]; rfl) (fun j u hj => by simp at hj)
    · obtain ⟨p', c', hv, h1, h2, h3, h4⟩ := h
      simp only [Value.slice.injEq] at hv
      obtain ⟨rfl, hl2, rfl⟩ := hv
      obtain ⟨g, off, rfl, hc⟩ := h4 (by omega)
      refine run_firstCells_some (P := Tryd.prog) w.drew i.size n _ _ _ _ (by rw [hsz, List.length_map, hl, Nat.mul_one]) (fun j u hj => ?_)
      have hjn : j < xs.length := by
        have := (List.getElem?_eq_some_iff.1 hj).1
        simpa using this
      have hadd : (⟨g, off, none⟩ : Addr).add j = ⟨g, off + j, none⟩ := Addr.add_lit g off j
      rw [hadd]
      show w.cell? _ = _
      rw [hc j hjn, ← hj, List.getElem?_map, List.getElem?_eq_getElem hjn]
      simp [List.getD_eq_getElem?_getD, List.getElem?_eq_getElem hjn]
  have hr := run_append_grow_src (P := Tryd.prog) w 22 22 22 5 i _ Tryd.underlying22 hi hz p n n (xs.map (Value.int .u8)) hcells x l.length (l.map (Value.int .u8)) (by rw [hsz]; exact hs) (by omega) (by omega) (growslice_fits (by omega) (by rw [hb]; omega))
  rw [zeroCells_int] at hr
  have hge := grownCap_ge w (n + l.length) n 5
  generalize grownCap w (n + l.length) n 5 = c at hr hge
  have e0 : ((xs.map (Value.int .u8)) ++ (l.map (Value.int .u8))).toArray ++ ((List.replicate (c - (n + l.length)) (0 : Int)).map (Value.int .u8)).toArray = (((xs ++ l) ++ List.replicate (c - (n + l.length)) 0).map (Value.int .u8)).toArray := by simp
  rw [e0] at hr
  exact ⟨_, _, hr, .inr ⟨w.heap.size, c - (n + l.length), by rw [List.length_append, hl]; congr 1; omega, Arr.new w.drew _ _ _ _ rfl, Nat.le_refl _⟩, (Below.refl w.heap.size w).drew.alloc (Nat.le_refl _) _⟩
/-- Bytes as a text. -/
theorem str_bs' {w : World} {v : Value} {l : List Int} (h : Bs w v l) : (convert 22 9 v).run Tryd.prog w = .ok (.string (strOfNums l)) w := by
  obtain ⟨p, c, rfl, h1, h2, h3, h4⟩ := h
  rcases Nat.eq_zero_or_pos l.length with h0 | h0
  · have e : l = [] := List.eq_nil_of_length_eq_zero h0
    subst e
    have hn : strOfNums [] = ByteArray.empty := by simp [strOfNums]; rfl
    rw [hn]
    rcases p with _ | a
    · exact run_convert_bytes_nil w 22 5 Tryd.underlying22 Tryd.underlying5 _ c _ Tryd.underlying9
    · rw [run_convert_bytes_string w 22 9 5 _ _ _ Tryd.underlying22 Tryd.underlying5 Tryd.underlying9]
      exact run_bytesToString w a 0 c [] (by simp [loadCells, loadCellsFrom])
  · obtain ⟨g, off, rfl, hc⟩ := h4 h0
    exact run_convert_bytes_arg w 22 5 Tryd.underlying22 Tryd.underlying5 g off l.length c l rfl hc _ Tryd.underlying9
set_option maxRecDepth 100000 in
theorem seal_argK (k : Int) (hk : k < 1 ∨ 255 < k) (v : Value) (w : World) : Calls Tryd.prog 4 #[.int .i64 k, v] w fun e w' => e = .returned (.tuple #[.slice none 0 0, .int .i64 1]) ∧ w = w' := by
  rcases hk with hk | hk
  · go_enter Tryd.func4, Tryd.ntmps4
    go_wp2_with fail
    refine bodyPost_ret (v := .tuple #[.slice none 0 0, .int .i64 1]) ?_ rfl ⟨rfl, rfl⟩
    simp [results, Tryd.results4]
  · have hk2 : ¬ k < 1 := by omega
    go_enter Tryd.func4, Tryd.ntmps4
    go_wp2_with fail
    refine bodyPost_ret (v := .tuple #[.slice none 0 0, .int .i64 1]) ?_ rfl ⟨rfl, rfl⟩
    simp [results, Tryd.results4]
end Go.Proofs.YtkggglhnhlclmaaDoor
