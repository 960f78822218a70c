/- Contract of slices.Clone over words: the copy has spare room of noughts. -/
import Derived.Test.YtogildikglomkaaGreatDoorNat0
import Derived.Lib.AppendZeros
namespace Go.Proofs.YtogildikglomkaaGreatDoor
open Go.RowKit
set_option linter.unusedVariables false

theorem zeroCells_u64 (n : Nat) : Builtin.zeroCells (Value.int .u64 0).cells n = ((List.replicate n (0 : Int)).map (Value.int .u64)).toArray := by
  rw [← Array.toList_inj]
  have h : (Value.int .u64 0).cells = #[Value.int .u64 0] := rfl
  rw [h]
  simp [Builtin.zeroCells,Nat.mod_one]
  exact List.map_const' .. |>.trans (by simp)
set_option maxRecDepth 100000 in
set_option maxHeartbeats 1000000 in
theorem clone_any (b t n c : Nat) (l : List Int) (w : World) (ha : Arr w b t .u64 l) (hn : n ≤ l.length) (hp : 1 ≤ n) (hm : n ≤ 4294967296) :
    Calls Tryz.prog 79 #[.slice (some ⟨b,0,none⟩) n c] w fun e w' => ∃ g cap k,e = .returned (.slice (some ⟨g,0,none⟩) n cap) ∧ Arr w' g 22 .u64 (l.take n ++ List.replicate k 0) ∧ cap = n + k ∧ w.heap.size ≤ g ∧ Below w.heap.size w w' := by
  have k1 := ha.lt
  have e1 := eqnil
  obtain ⟨i0,hi,hz0,hz1,hz2⟩ := info_parts info64
  have hge := grownCap_ge (w.alloc (.cells #[] 22)) (0 + n) 0 22
  have hrun := run_append_grow (P := Tryz.prog) (w.alloc (.cells #[] 22)) 23 23 22 i0 _ Tryz.underlying23 hi hz0 ⟨w.heap.size,0,none⟩ 0 0 [] (by simp) (by simp) ⟨b,0,none⟩ n c ((l.take n).map (Value.int .u64)) (by rw [hz1]; simp; omega) (by
    intro j v hj
    have hjn : j < n ∧ j < l.length := by
      have := (List.getElem?_eq_some_iff.1 hj).1
      simp at this
      omega
    have hadd : (⟨b,0,none⟩ : Addr).add j = ⟨b,j,none⟩ := by unfold Addr.add; split <;> simp_all
    rw [hadd,(ha.alloc _).cell j hjn.2]
    simp only [List.getElem?_map,List.getElem?_take,if_pos hjn.1] at hj
    rw [← hj]
    simp [List.getD_eq_getElem?_getD,List.getElem?_eq_getElem hjn.2]) (by omega) (by omega) (growslice_fits (by omega) (by rw [hz2]; omega))
  obtain ⟨cap,hcap⟩ : ∃ cap,grownCap (w.alloc (.cells #[] 22)) (0 + n) 0 22 = cap := ⟨_,rfl⟩
  rw [hcap] at hge hrun
  rw [zeroCells_u64] at hrun
  have e0 : (#[] : Array Value) ++ ((l.take n).map (Value.int .u64)).toArray ++ ((List.replicate (cap - (0 + n)) (0 : Int)).map (Value.int .u64)).toArray = ((l.take n ++ List.replicate (cap - (0 + n)) 0).map (Value.int .u64)).toArray := by simp
  rw [e0,Nat.zero_add] at hrun
  rw [Nat.zero_add] at hge
  go_enter Tryz.func79,Tryz.ntmps79
  go_wp2_with (at_builtin; refine Lib.wpList_append_run _ rfl _ _ _ _ rfl _ _ rfl rfl _ _ hrun ?_)
  go_wp2
  go_ret
  have hA := Arr.new (w.alloc (.cells #[] 22)) 22 .u64 (l.take n ++ List.replicate (cap - n) 0) (w.heap.size + 1) (by simp)
  rw [List.map_append,List.map_take,List.map_replicate] at hA
  exact ⟨w.heap.size + 1,cap,cap - n,rfl,hA,by omega,by omega,by go_grown⟩
end Go.Proofs.YtogildikglomkaaGreatDoor
