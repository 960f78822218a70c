/- Contract of abaculushand.Few: at most 48 bytes, in new memory. -/
import Derived.Test.YtjaepdjidfhamaaDoorNatFrom
import Derived.Lib.AppendZeros
import Derived.Laws.AppendOwnNone
namespace Go.Proofs.YtjaepdjidfhamaaDoor
open Go.RowKit
set_option linter.unusedVariables false

def Bytes8 (l : List Int) : Prop := ∀ x ∈ l, 0 ≤ x ∧ x < 256
/-- At most 48 bytes, in a row of the call's own. -/
def RetFew (w : World) (e : Ending) (w' : World) : Prop := ∃ g n cap l, e = .returned (.slice (some ⟨g, 0, none⟩) n cap) ∧ Arr w' g 5 .u8 l ∧ n ≤ l.length ∧ n ≤ 48 ∧ Bytes8 l ∧ Below w.heap.size w w'
theorem zeroCells_u8 (n : Nat) : Builtin.zeroCells (Value.int .u8 0).cells n = ((List.replicate n (0 : Int)).map (Value.int .u8)).toArray := by
  rw [← Array.toList_inj]
  have h : (Value.int .u8 0).cells = #[Value.int .u8 0] := rfl
  rw [h]
  simp [Builtin.zeroCells, Nat.mod_one]
  exact List.map_const' .. |>.trans (by simp)

set_option maxRecDepth 100000 in
set_option maxHeartbeats 1000000 in
theorem few_nil (w : World) : Calls Tryd.prog 41 #[.slice none 0 0, .int .i64 48] w (RetFew w) := by
  go_enter Tryd.func41, Tryd.ntmps41
  go_wp2
  go_ret
  exact ⟨w.heap.size, 0, 0, [], rfl, Arr.new w _ _ [] _ rfl, by simp, by omega, fun _ h => by simp at h, by go_grown⟩
set_option maxRecDepth 100000 in
set_option maxHeartbeats 1000000 in
theorem few_any (b off len cap : Nat) (zs : List Int) (hp : 0 < len) (hl : len ≤ cap) (hz : len ≤ zs.length) (hm : len ≤ 9223372036854775807) (hcm : cap ≤ 9223372036854775807) (hby : Bytes8 zs) (w : World)
    (hc : ∀ j, j < zs.length → w.cell? ⟨b, off + j, none⟩ = some (.int .u8 (zs.getD j 0))) :
    Calls Tryd.prog 41 #[.slice (some ⟨b, off, none⟩) len cap, .int .i64 48] w (RetFew w) := by
  obtain ⟨n, hn⟩ : ∃ n : Nat, min len 48 = n := ⟨_, rfl⟩
  have hni : min (len : Int) 48 = n := by omega
  have hn1 : 0 < n := by omega
  have hn2 : n ≤ len := by omega
  have hn3 : n ≤ 48 := by omega
  have A : Aside (∀ j, j < zs.length → w.cell? ⟨b, off + j, none⟩ = some (.int .u8 (zs.getD j 0))) := hc
  clear hc
  obtain ⟨i0, hi, hz0, hz1, hz2⟩ := info_parts info8
  have hge := grownCap_ge (w.alloc (.cells #[] 5)) (0 + n) 0 5
  have hrun := run_append_grow (P := Tryd.prog) (w.alloc (.cells #[] 5)) 40 40 5 i0 _ Tryd.underlying40 hi hz0 ⟨w.heap.size, 0, none⟩ 0 0 [] (by simp) (by simp) ⟨b, off, none⟩ n cap ((zs.take n).map (Value.int .u8)) (by rw [hz1]; simp; omega) (by
    intro j v hj
    have hjn : j < n ∧ j < zs.length := by
      have := (List.getElem?_eq_some_iff.1 hj).1
      simp at this
      omega
    have hadd : (⟨b, off, none⟩ : Addr).add j = ⟨b, off + j, none⟩ := by unfold Addr.add; split <;> simp_all
    rw [hadd]
    refine Lib.cell?_alloc_some _ ?_
    rw [A.out j hjn.2]
    simp only [List.getElem?_map, List.getElem?_take, if_pos hjn.1] at hj
    rw [← hj]
    simp [List.getD_eq_getElem?_getD, List.getElem?_eq_getElem hjn.2]) (by omega) (by omega) (growslice_fits (by omega) (by rw [hz2]; omega))
  obtain ⟨kap, hcap⟩ : ∃ kap, grownCap (w.alloc (.cells #[] 5)) (0 + n) 0 5 = kap := ⟨_, rfl⟩
  rw [hcap] at hge hrun
  rw [zeroCells_u8] at hrun
  have e0 : (#[] : Array Value) ++ ((zs.take n).map (Value.int .u8)).toArray ++ ((List.replicate (kap - (0 + n)) (0 : Int)).map (Value.int .u8)).toArray = ((zs.take n ++ List.replicate (kap - (0 + n)) 0).map (Value.int .u8)).toArray := by simp
  rw [e0, Nat.zero_add] at hrun
  rw [Nat.zero_add] at hge
  go_enter Tryd.func41, Tryd.ntmps41
  go_wp2_with (at_builtin; refine Lib.wpList_append_run _ rfl _ _ _ _ rfl _ _ rfl rfl _ _ hrun ?_)
  go_wp2
  go_ret
  have hA := Arr.new (w.alloc (.cells #[] 5)) 5 .u8 (zs.take n ++ List.replicate (kap - n) 0) (w.heap.size + 1) (by simp)
  rw [List.map_append, List.map_take, List.map_replicate] at hA
  refine ⟨w.heap.size + 1, n, kap, _, rfl, hA, by simp; omega, hn3, ?_, by go_grown⟩
  intro x hx
  rcases List.mem_append.1 hx with h | h
  · exact hby x (List.mem_of_mem_take h)
  · rw [List.eq_of_mem_replicate h]; exact ⟨by decide, by decide⟩
set_option maxRecDepth 100000 in
set_option maxHeartbeats 1000000 in
theorem few_zero (a : Addr) (cap : Nat) (hcm : cap ≤ 9223372036854775807) (w : World) : Calls Tryd.prog 41 #[.slice (some a) 0 cap, .int .i64 48] w (RetFew w) := by
  have hmin : min (0 : Int) 48 = 0 := rfl
  go_enter Tryd.func41, Tryd.ntmps41
  go_wp2
  go_ret
  exact ⟨w.heap.size, 0, 0, [], rfl, Arr.new w _ _ [] _ rfl, by simp, by omega, fun _ h => by simp at h, by go_grown⟩
end Go.Proofs.YtjaepdjidfhamaaDoor
