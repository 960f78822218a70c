/- The document's sums,differences,products,order and bytes,said of numbers; Sub where what is taken away is more. -/
import Derived.Test.YtogildikglomkaaGreatDoorRefAdd
import Derived.Test.YtogildikglomkaaGreatDoorRingKit
import Derived.Test.YtogildikglomkaaGreatDoorIs
namespace Go.Proofs.YtogildikglomkaaGreatDoor
open Go.RowKit
set_option linter.unusedVariables false

theorem IsRef.num {w : World} {s : Value} {n : Int} (h : IsRef w s n) : IsNum w s n := by
  obtain ⟨b,t,len,cap,l,rfl,ha,h1,h2,h3,hw,hz,rfl⟩ := h
  exact isNum_arr ha h1 (by omega) hw hz
theorem num_len {w : World} {s : Value} {L : List Int} {K : Nat} (h : Limbed w s L) (hz : L ≠ [] → L.getD (L.length - 1) 0 ≠ 0) (hn : lval L < lpw K) : L.length ≤ K := by
  by_cases hc : L.length ≤ K
  · exact hc
  · have hne : L ≠ [] := by rintro rfl; simp at hc
    have h1 := lval_low h.limbs (len := L.length) (by omega) (Nat.le_refl _) (hz hne)
    rw [List.take_length] at h1
    have h3 := lpw_mono (a := K) (b := L.length - 1) (by omega)
    omega
theorem natAdd_num (K : Nat) (hK : K ≤ 1048576) (s1 s2 : Value) (n m : Int) (w : World) (h1 : IsNum w s1 n) (h2 : IsNum w s2 m) (hn : n < lpw K) (hm : m < lpw K) :
    Calls Tryz.prog 123 #[s1,s2] w (RetNum (n + m) w) := by
  obtain ⟨A,a1,a2,rfl⟩ := h1
  obtain ⟨B,b1,b2,rfl⟩ := h2
  exact natAdd_any s1 s2 A B w a1 b1 (Nat.le_trans (num_len a1 a2 hn) hK) (Nat.le_trans (num_len b1 b2 hm) hK)
theorem natMul_num (K : Nat) (hK : K ≤ 1048576) (s1 s2 : Value) (n m : Int) (w : World) (h1 : IsNum w s1 n) (h2 : IsNum w s2 m) (hn : n < lpw K) (hm : m < lpw K) :
    Calls Tryz.prog 60 #[s1,s2] w (RetNum (n * m) w) := by
  obtain ⟨A,a1,a2,rfl⟩ := h1
  obtain ⟨B,b1,b2,rfl⟩ := h2
  exact natMul_any s1 s2 A B w a1 b1 (Nat.le_trans (num_len a1 a2 hn) hK) (Nat.le_trans (num_len b1 b2 hm) hK)
theorem natSub_num (s1 s2 : Value) (n m : Int) (w : World) (h1 : IsNum w s1 n) (h2 : IsNum w s2 m) (hle : m ≤ n) :
    Calls Tryz.prog 124 #[s1,s2] w (RetNum (n - m) w) := by
  obtain ⟨A,a1,a2,rfl⟩ := h1
  obtain ⟨B,b1,b2,rfl⟩ := h2
  exact natSub_any s1 s2 A B w a1 b1 hle b2
theorem natCmp_num (s1 s2 : Value) (n m : Int) (w : World) (h1 : IsNum w s1 n) (h2 : IsNum w s2 m) :
    Calls Tryz.prog 31 #[s1,s2] w fun e w' => e = .returned (.int .i64 (cmpI n m)) ∧ Below w.heap.size w w' := by
  obtain ⟨A,a1,a2,rfl⟩ := h1
  obtain ⟨B,b1,b2,rfl⟩ := h2
  exact natCmp_any s1 s2 A B w a1 b1 a2 b2
theorem natBytes_num (s : Value) (n : Int) (w : World) (h : IsNum w s n) : Calls Tryz.prog 95 #[s] w (RetBytes n w) := by
  obtain ⟨L,h1,h2,rfl⟩ := h
  rcases h1 with ⟨rfl,rfl⟩ | ⟨b,t,len,cap,l,rfl,ha,k1,k2,hw,rfl⟩
  · exact natBytes_zero none 0 w
  · refine natBytes_of _ b len cap t l w ha k1 k2 hw (fun h0 => ?_) rfl
    have hl : (l.take len).length = len := by rw [List.length_take,Nat.min_eq_left k1]
    have hne : l.take len ≠ [] := fun e => h0 (by rw [← hl,e]; rfl)
    have := h2 hne
    rw [hl,getD_take,if_pos (by omega)] at this
    exact this
theorem IsNum.shape {w : World} {s : Value} {n : Int} (h : IsNum w s n) : ∃ p l c,s = .slice p l c := by
  obtain ⟨L,h1,_⟩ := h
  obtain ⟨p,c,rfl⟩ := h1.shape
  exact ⟨p,_,c,rfl⟩
theorem sub_none (v1 v2 : Value) (n m : Int) (w : World) (h1 : IsNat w v1 n) (h2 : IsNat w v2 m) (hlt : n < m) :
    Calls Tryz.prog 42 #[v1,v2] w fun e w' => e = .returned (.tuple #[.agg #[.int .u64 0,.slice none 0 0],.bool false]) ∧ Below w.heap.size w w' := by
  obtain ⟨x1,p1,l1,c1,rfl⟩ := h1.shape
  obtain ⟨x2,p2,l2,c2,rfl⟩ := h2.shape
  have hcmp := fun w' (hb : Below w.heap.size w w') => cmp_any (.agg #[.int .u64 x1,.slice p1 l1 c1]) (.agg #[.int .u64 x2,.slice p2 l2 c2]) n m w' (h1.below hb) (h2.below hb)
  rw [cmpI_lt hlt] at hcmp
  go_enter Tryz.func42,Tryz.ntmps42
  go_wp2_with fail
  refine (hcmp _ (by go_grown)).mono ?_
  rintro e w2 ⟨rfl,hb2⟩
  obtain ⟨v0,v1,v2,hB2,hS⟩ := boxes3 hb2
  clear hcmp hb2
  have c20 := v2.c0
  have c21 := v2.c1
  have f20 := v2.free 0
  have f21 := v2.free 1
  go_wp2_with fail
  have v3 := v2.set (.int .u64 0) none 0 0
  refine bodyPost_ret (v := .tuple #[.agg #[.int .u64 0,.slice none 0 0],.bool false]) ?_ rfl ⟨rfl,below_two hB2 (by omega) _ _⟩
  simp [results,Tryz.results42,asAddr,run_loadVar_nat v3]
end Go.Proofs.YtogildikglomkaaGreatDoor
