/- Contract of abaculusref1.NatFrom: some number of as many limbs. Contract of abaculushand.Few: at most 48 bytes,in new memory. Contract of NatBytes over whatever number of the document's. -/
import Derived.Test.YtogildikglomkaaGreatDoorRef0
import Derived.Lib.AppendZeros
import Derived.Deep.LoopGhost
import Derived.Laws.AppendOwnNone
namespace Go.Proofs.YtogildikglomkaaGreatDoor
open Go.RowKit
set_option linter.unusedVariables false

theorem info32 : (Tryz.prog.info? 101).map (fun i => (i.zero,i.size,i.bytes)) = some (some (.int .u32 0),1,4) := by kernel_rfl
theorem make32 (n : Nat) (i : Int) (hi : i = n) (hn : n ≤ 35184372088832) (w : World) :
    (Instr.makeSlice 47 (.int .i64 i) (.int .i64 i)).run Tryz.prog w = .ok (.slice (some ⟨w.heap.size,0,none⟩) n n) (w.alloc (.cells (zeros .u32 n) 101)) := by
  subst hi
  obtain ⟨i0,hi,hz0,hz1,hz2⟩ := info_parts info32
  have hr := run_make (P := Tryz.prog) w 47 101 i0 _ Tryz.underlying47 hi hz0 .i64 .i64 n n (by omega) (Int.le_refl _) (by rw [hz2]; omega) (by omega)
  rw [hr,Int.toNat_natCast,hz1,Nat.mul_one]
  show Result.ok _ (w.alloc (.cells (madeCells #[.int .u32 0] n) 101)) = _
  rw [madeCells_zeros]

theorem or_limb {x y : Int} (hx : Limb x) (hy : Limb y) : Limb (bits .or .u32 x y) := by
  obtain ⟨X,rfl⟩ := Int.eq_ofNat_of_zero_le hx.1
  obtain ⟨Y,rfl⟩ := Int.eq_ofNat_of_zero_le hy.1
  have h1 := hx.2
  have h2 := hy.2
  rw [u32_or_nat X Y (by omega) (by omega)]
  have := Nat.or_lt_two_pow (x := X) (y := Y) (n := 32) (by omega) (by omega)
  exact ⟨by omega,by omega⟩
theorem wrap_limb (x : Int) : Limb (IntKind.u32.wrap x) := by
  rw [IntKind.wrap_u32]; exact ⟨by omega,by omega⟩

set_option maxRecDepth 100000 in
set_option maxHeartbeats 1000000 in
theorem natFrom_any (b t len cap : Nat) (l : List Int) (w : World) (ha : Arr w b t .u8 l) (hl : len ≤ l.length) (hm : len ≤ 48) (hby : ∀ x ∈ l,0 ≤ x ∧ x < 256) :
    Calls Tryz.prog 26 #[.slice (some ⟨b,0,none⟩) len cap] w fun e w' => (∃ g n l,e = .returned (.slice (some ⟨g,0,none⟩) n ((len + 3) / 4)) ∧ Arr w' g 101 .u32 l ∧ l.length = (len + 3) / 4 ∧ Limbs l ∧ n ≤ (len + 3) / 4 ∧ (n ≠ 0 → l.getD (n - 1) 0 ≠ 0)) ∧ Below w.heap.size w w' := by
  obtain ⟨L,hL⟩ : ∃ L,(len + 3) / 4 = L := ⟨_,rfl⟩
  rw [hL]
  have hi : (((len : Int) + 3) / 4) = (L : Int) := by omega
  have hmk := make32 L L rfl (by omega)
  have k1 := ha.lt
  have HL := Lib.hid hL
  clear hL
  go_enter Tryz.func26,Tryz.ntmps26
  go_wp2_with (rw [hi])
  go_loopw [4] (fun i wr => ∃ (k : Nat) (lk : List Int),k ≤ len ∧ i = .int .i64 k ∧ lk.length = L ∧ Limbs lk ∧ Arr wr w.heap.size 101 .u32 lk ∧ Below w.heap.size w wr) (fun i _ => len - (intOf i).toNat)
  case atStart => exact ⟨0,_,Nat.zero_le _,rfl,by simp,Limbs.replicate L,Arr.zeros _ _ _ L _ rfl,by go_grown⟩
  case round =>
    obtain ⟨k,lk,hk,rfl,hlen,hwk,hak,hB⟩ := hrel
    by_cases hlt : k < len
    · obtain ⟨p,hp⟩ : ∃ p : Nat,len - 1 - k = p := ⟨_,rfl⟩
      have hpi : (len : Int) - 1 - k = p := by omega
      have hr := Nat.mod_lt p (show 4 > 0 by decide)
      have hq : p / 4 < L := by have := HL.out; omega
      have hcx := (ha.below hB k1).cell k (by omega)
      have hb : 0 ≤ l.getD k 0 ∧ l.getD k 0 < 256 := by
        rw [List.getD_eq_getElem?_getD,List.getElem?_eq_getElem (by omega)]
        exact hby _ (List.getElem_mem _)
      have hqi : (p : Int) / 4 = ((p / 4 : Nat) : Int) := by omega
      have hri : (p : Int) % 4 = ((p % 4 : Nat) : Int) := by omega
      generalize p / 4 = q at hq hqi
      generalize p % 4 = r at hr hri
      have hco := hak.cell q (by omega)
      have hfo := hak.free q
      have hx := hwk.getD q
      generalize lk.getD q 0 = x at hco hx
      generalize l.getD k 0 = c at hcx hb
      have hq0 : (0 : Int) ≤ (q : Int) := by omega
      have hqL : (q : Int) < (L : Int) := by omega
      have hr0 : (0 : Int) ≤ 8 * (r : Int) := by omega
      have hr8 : 8 * (r : Int) < 32 := by omega
      have hset := fun y (hy : Limb y) => hwk.set q (or_limb hx hy)
      have Hset := Lib.hid hset
      have Hp := Lib.hid hp
      have Hlen := Lib.hid hlen
      have Hx := Lib.hid hx
      have Hwk := Lib.hid hwk
      clear hset hp hlen hx hwk hby
      go_wp2_with fail
      go_region
      have hy : Limb (c * 2 ^ (8 * r) % 4294967296) := ⟨Int.emod_nonneg _ (by decide),Int.emod_lt_of_pos _ (by decide)⟩
      generalize c * 2 ^ (8 * r) % 4294967296 = y at hy ⊢
      have hnew := Hset.out y hy
      go_wp2
      exact ⟨⟨k + 1,_,by omega,by go_num,by rw [List.length_set]; exact Hlen.out,hnew,hak.set _ _,(hB.setCell (p := ⟨w.heap.size,q,none⟩) (Nat.le_refl _) _).drew⟩,by simp [intOf]; omega⟩
    · obtain rfl : k = len := by omega
      have ht1 := trimLen_le lk L
      have ht2 := trimLen_last lk L
      go_wp2_with fail
      refine (ltrim_any w.heap.size 101 L L lk wr hak (Nat.le_refl _) (by omega) (by have := HL.out; omega)).mono ?_
      rintro e w1 ⟨rfl,rfl⟩
      generalize trimLen lk L = m at ht1 ht2
      have Ht2 := Lib.hid ht2
      clear ht2
      go_wp2
      go_ret
      exact ⟨⟨_,m,lk,rfl,hak,hlen,hwk,ht1,Ht2.out⟩,hB⟩
end Go.Proofs.YtogildikglomkaaGreatDoor

namespace Go.Proofs.YtogildikglomkaaGreatDoor
open Go.RowKit
set_option linter.unusedVariables false

def Bytes8 (l : List Int) : Prop := ∀ x ∈ l,0 ≤ x ∧ x < 256
/-- At most 48 bytes,in a row of the call's own. -/
def RetFew (w : World) (e : Ending) (w' : World) : Prop := ∃ g n cap l,e = .returned (.slice (some ⟨g,0,none⟩) n cap) ∧ Arr w' g 5 .u8 l ∧ n ≤ l.length ∧ n ≤ 48 ∧ Bytes8 l ∧ Below w.heap.size w w'
theorem zeroCells_u8 (n : Nat) : Builtin.zeroCells (Value.int .u8 0).cells n = ((List.replicate n (0 : Int)).map (Value.int .u8)).toArray := by
  rw [← Array.toList_inj]
  have h : (Value.int .u8 0).cells = #[Value.int .u8 0] := rfl
  rw [h]
  simp [Builtin.zeroCells,Nat.mod_one]
  exact List.map_const' .. |>.trans (by simp)

set_option maxRecDepth 100000 in
set_option maxHeartbeats 1000000 in
theorem few_nil (w : World) : Calls Tryz.prog 27 #[.slice none 0 0,.int .i64 48] w (RetFew w) := by
  go_enter Tryz.func27,Tryz.ntmps27
  go_wp2
  go_ret
  exact ⟨w.heap.size,0,0,[],rfl,Arr.new w _ _ [] _ rfl,by simp,by omega,fun _ h => by simp at h,by go_grown⟩
set_option maxRecDepth 100000 in
set_option maxHeartbeats 1000000 in
theorem few_any (b off len cap : Nat) (zs : List Int) (hp : 0 < len) (hl : len ≤ cap) (hz : len ≤ zs.length) (hm : len ≤ 9223372036854775807) (hcm : cap ≤ 9223372036854775807) (hby : Bytes8 zs) (w : World)
    (hc : ∀ j,j < zs.length → w.cell? ⟨b,off + j,none⟩ = some (.int .u8 (zs.getD j 0))) :
    Calls Tryz.prog 27 #[.slice (some ⟨b,off,none⟩) len cap,.int .i64 48] w (RetFew w) := by
  obtain ⟨n,hn⟩ : ∃ n : Nat,min len 48 = n := ⟨_,rfl⟩
  have hni : min (len : Int) 48 = n := by omega
  have hn1 : 0 < n := by omega
  have hn2 : n ≤ len := by omega
  have hn3 : n ≤ 48 := by omega
  have A : Aside (∀ j,j < zs.length → w.cell? ⟨b,off + j,none⟩ = some (.int .u8 (zs.getD j 0))) := hc
  clear hc
  obtain ⟨i0,hi,hz0,hz1,hz2⟩ := info_parts info8
  have hge := grownCap_ge (w.alloc (.cells #[] 5)) (0 + n) 0 5
  have hrun := run_append_grow (P := Tryz.prog) (w.alloc (.cells #[] 5)) 45 45 5 i0 _ Tryz.underlying45 hi hz0 ⟨w.heap.size,0,none⟩ 0 0 [] (by simp) (by simp) ⟨b,off,none⟩ n cap ((zs.take n).map (Value.int .u8)) (by rw [hz1]; simp; omega) (by
    intro j v hj
    have hjn : j < n ∧ j < zs.length := by
      have := (List.getElem?_eq_some_iff.1 hj).1
      simp at this
      omega
    have hadd : (⟨b,off,none⟩ : Addr).add j = ⟨b,off + j,none⟩ := by unfold Addr.add; split <;> simp_all
    rw [hadd]
    refine Lib.cell?_alloc_some _ ?_
    rw [A.out j hjn.2]
    simp only [List.getElem?_map,List.getElem?_take,if_pos hjn.1] at hj
    rw [← hj]
    simp [List.getD_eq_getElem?_getD,List.getElem?_eq_getElem hjn.2]) (by omega) (by omega) (growslice_fits (by omega) (by rw [hz2]; omega))
  obtain ⟨kap,hcap⟩ : ∃ kap,grownCap (w.alloc (.cells #[] 5)) (0 + n) 0 5 = kap := ⟨_,rfl⟩
  rw [hcap] at hge hrun
  rw [zeroCells_u8] at hrun
  have e0 : (#[] : Array Value) ++ ((zs.take n).map (Value.int .u8)).toArray ++ ((List.replicate (kap - (0 + n)) (0 : Int)).map (Value.int .u8)).toArray = ((zs.take n ++ List.replicate (kap - (0 + n)) 0).map (Value.int .u8)).toArray := by simp
  rw [e0,Nat.zero_add] at hrun
  rw [Nat.zero_add] at hge
  go_enter Tryz.func27,Tryz.ntmps27
  go_wp2_with (at_builtin; refine Lib.wpList_append_run _ rfl _ _ _ _ rfl _ _ rfl rfl _ _ hrun ?_)
  go_wp2
  go_ret
  have hA := Arr.new (w.alloc (.cells #[] 5)) 5 .u8 (zs.take n ++ List.replicate (kap - n) 0) (w.heap.size + 1) (by simp)
  rw [List.map_append,List.map_take,List.map_replicate] at hA
  refine ⟨w.heap.size + 1,n,kap,_,rfl,hA,by simp; omega,hn3,?_,by go_grown⟩
  intro x hx
  rcases List.mem_append.1 hx with h | h
  · exact hby x (List.mem_of_mem_take h)
  · rw [List.eq_of_mem_replicate h]; exact ⟨by decide,by decide⟩
set_option maxRecDepth 100000 in
set_option maxHeartbeats 1000000 in
theorem few_zero (a : Addr) (cap : Nat) (hcm : cap ≤ 9223372036854775807) (w : World) : Calls Tryz.prog 27 #[.slice (some a) 0 cap,.int .i64 48] w (RetFew w) := by
  have hmin : min (0 : Int) 48 = 0 := rfl
  go_enter Tryz.func27,Tryz.ntmps27
  go_wp2
  go_ret
  exact ⟨w.heap.size,0,0,[],rfl,Arr.new w _ _ [] _ rfl,by simp,by omega,fun _ h => by simp at h,by go_grown⟩
end Go.Proofs.YtogildikglomkaaGreatDoor

namespace Go.Proofs.YtogildikglomkaaGreatDoor
open Go.RowKit
set_option linter.unusedVariables false

theorem natBytes_of (n : Int) (b len cap : Nat) (t : TypeId) (l : List Int) (w : World) (ha : Arr w b t .u32 l) (hl : len ≤ l.length) (hm : len ≤ 4294967296) (hw : Limbs l) (hz : len ≠ 0 → l.getD (len - 1) 0 ≠ 0) (hv : lval (l.take len) = n) :
    Calls Tryz.prog 95 #[.slice (some ⟨b,0,none⟩) len cap] w (RetBytes n w) := by
  cases len with
  | zero =>
    have : n = 0 := by rw [← hv]; simp [lval]
    subst this
    exact natBytes_zero _ _ _
  | succ k =>
    rw [← hv]
    exact natBytes_pos b t k cap l w ha hl hm hw (by simpa using hz (by omega))
end Go.Proofs.YtogildikglomkaaGreatDoor
