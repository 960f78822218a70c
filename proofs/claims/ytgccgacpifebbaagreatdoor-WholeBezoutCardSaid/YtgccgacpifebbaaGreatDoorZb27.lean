/- GcdR GcdL -/
import Derived.Test.YtgccgacpifebbaaGreatDoorZb26
import Derived.Test.YtgccgacpifebbaaGreatDoorZb10
import Derived.Test.YtgccgacpifebbaaGreatDoorZb14
import Derived.Test.YtgccgacpifebbaaGreatDoorZb04
import Derived.Test.YtgccgacpifebbaaGreatDoorZb19
namespace Go.Proofs.YtgccgacpifebbaaGreatDoor
open Go.RowKit
set_option linter.unusedVariables false
/-- Value v is the words of n, the lowest first, the last not 0, in block g. -/
def IsRow (w : World) (v : Value) (g L c : Nat) (n : Int) : Prop := v = .slice (some ⟨g,0,none⟩) L c ∧ L ≤ c ∧ ∃ l, Arr w g 23 .u64 l ∧ l.length = c ∧ Words l ∧ val (l.take L) = n ∧ (L ≠ 0 → l.getD (L - 1) 0 ≠ 0)
theorem IsRow.below {w w' : World} {v : Value} {g L c : Nat} {n : Int} (h : IsRow w v g L c n) (hb : Below w.heap.size w w') : IsRow w' v g L c n := by
  obtain ⟨h1,h2,l,h3,h4⟩ := h
  exact ⟨h1,h2,l,h3.below hb h3.lt,h4⟩
theorem IsRow.touch {w w' : World} {p : Nat} {v : Value} {g L c : Nat} {n : Int} (h : IsRow w v g L c n) (ht : Touch p w w') : IsRow w' v g L c n := by
  obtain ⟨h1,h2,l,h3,h4⟩ := h
  exact ⟨h1,h2,l,h3.touch ht,h4⟩
theorem IsRow.lt {w : World} {v : Value} {g L c : Nat} {n : Int} (h : IsRow w v g L c n) : g < w.heap.size := by
  obtain ⟨_,_,l,h3,_⟩ := h
  exact h3.lt
theorem IsRow.nonneg {w : World} {v : Value} {g L c : Nat} {n : Int} (h : IsRow w v g L c n) : 0 ≤ n := by
  obtain ⟨_,_,l,_,_,hw,hv,_⟩ := h
  rw [← hv]
  exact (val_bd (hw.take L)).1
theorem IsRow.len {w : World} {v : Value} {g L c : Nat} {n : Int} (h : IsRow w v g L c n) (hL : L ≠ 0) : pw (L - 1) ≤ n ∧ n < pw L := by
  obtain ⟨_,h2,l,_,h4,hw,hv,hz⟩ := h
  have hx := hw.getD (L - 1)
  have hz := hz hL
  have e := val_take_succ (l := l) (k := L - 1) (by omega)
  rw [show L - 1 + 1 = L by omega,hv] at e
  have b1 := val_bd (hw.take (L - 1))
  have b2 := val_bd (hw.take L)
  rw [hv,List.length_take,Nat.min_eq_left (by omega)] at b2
  refine ⟨?_,b2.2⟩
  have hp := pw_pos (L - 1)
  have : pw (L - 1) * 1 ≤ pw (L - 1) * l.getD (L - 1) 0 := Int.mul_le_mul_of_nonneg_left (by unfold Word at hx; omega) (by omega)
  omega
theorem top_ne {l : List Int} {L k m : Nat} {n : Int} (hw : Words l) (hl : l.length = L) (hv : val l = n) (hk : IsBits n k) (hm : m = (k + 7) / 8) (hL : (m + 7) / 8 = L) (h0 : L ≠ 0) : l.getD (L - 1) 0 ≠ 0 := by
  intro hz
  have e := val_take_succ (l := l) (k := L - 1) (by omega)
  rw [show L - 1 + 1 = L by omega,List.take_of_length_le (by omega),hv,hz,Int.mul_zero,Int.add_zero] at e
  have b := val_bd (hw.take (L - 1))
  rw [List.length_take,Nat.min_eq_left (by omega),← e,pw_two] at b
  have hk0 : k ≠ 0 := by omega
  have h2 := hk.2 hk0
  have h3 : (2 : Int) ^ (64 * (L - 1)) ≤ 2 ^ (k - 1) := by
    exact two_pow_mono (by omega)
  omega
set_option maxRecDepth 100000 in
set_option maxHeartbeats 2000000 in
theorem wordsOf_any (K : Nat) (hK : K ≤ 40) (v : Value) (n : Int) (w : World) (h : IsNat w v n) (hn : n < pw K) : Calls Tryz.prog 32 #[v] w fun e w' => ∃ g L u, e = .returned u ∧ IsRow w' u g L L n ∧ L ≤ K ∧ w.heap.size ≤ g ∧ Below w.heap.size w w' := by
  obtain ⟨xa,pa,la,ca,rfl⟩ := h.shape
  have hn0 := h.nonneg
  obtain ⟨O,hO⟩ : ∃ O, w.alloc (.cells #[.int .u64 xa,.slice pa la ca] 26) = O := ⟨_,rfl⟩
  have b0 : Below w.heap.size w O := by subst hO; go_grown
  have bw := bytes_any K (by omega) _ n O (h.below b0) hn
  have vv : Var O w.heap.size (.int .u64 xa) (.slice pa la ca) := by subst hO; exact Var.new w _ _ _ _ _ rfl
  have c0 := vv.c0
  have c1 := vv.c1
  go_enter Tryz.func32,Tryz.ntmps32
  go_wp2_with fail
  refine bw.mono ?_
  rintro e w1 ⟨bb,k,m,rfl,hk,hm,ha,hbg,b1⟩
  have hkK := bits_le hk hn
  obtain ⟨L,hL⟩ : ∃ L,(m + 7) / 8 = L := ⟨_,rfl⟩
  have hLK : L ≤ K := by omega
  have hi : (((m : Int) + 8 - 1) / 8) = (L : Int) := by omega
  have hmk := make64 L L rfl (by omega)
  have hlt : n < 256 ^ m := by
    have h1 := hk.1
    have h2 : (2 : Int) ^ k ≤ 2 ^ (8 * m) := two_pow_mono (by omega)
    have h3 : (2 : Int) ^ (8 * m) = 256 ^ m := by rw [Int.pow_mul]; rfl
    omega
  have h00 := fromAt_zero (L := L) hn0 hlt
  have hle : (be n m).length = m := be_length _ _
  have bB := below_acc b0 b0.size b1
  have zB := bB.size
  have k1 := ha.lt
  have hm4 : m ≤ 400 := by omega
  have H00 := Lib.hid h00
  have Hn := Lib.hid hn0
  have HL := Lib.hid hL
  have Hle := Lib.hid hle
  have Hm := Lib.hid hm
  have Hk := Lib.hid hk
  have HLK := Lib.hid hLK
  have HkK := Lib.hid hkK
  have HK := Lib.hid hK
  clear h00 hn0 hlt hm hL hle hk hLK hkK hn h bw c0 c1 vv b0 b1 hO hK
  go_wp2_with (rw [hi])
  have b2 : Below w1.heap.size w1 (w1.alloc (.cells (zeros .u64 L) 23)) := by go_grown
  go_loopw [18] (fun i wr => ∃ (k : Nat) (lk : List Int),k ≤ m ∧ i = .int .i64 k ∧ FromAt n m k L lk ∧ Arr wr w1.heap.size 23 .u64 lk ∧ Below w1.heap.size w1 wr) (fun i _ => m - (intOf i).toNat)
  case atStart => exact ⟨0,_,Nat.zero_le _,rfl,H00.out,Arr.zeros _ _ _ L _ rfl,b2⟩
  case round =>
    obtain ⟨j,lk,hj,rfl,hat,hak,hB⟩ := hrel
    by_cases hlt : j < m
    · obtain ⟨p,hp⟩ : ∃ p : Nat,m - 1 - j = p := ⟨_,rfl⟩
      have hpi : (m : Int) - 1 - j = p := by omega
      have hst := hat.step Hn.out hlt HL.out
      have hlen := hat.1
      have hwk := hat.2.1.getD (p / 8)
      have hr := Nat.mod_lt p (show 8 > 0 by decide)
      have hb := byteAt_bd n p
      have hq : p / 8 < L := by have := HL.out; omega
      have hcx := (ha.below hB k1).cell j (by rw [Hle.out]; omega)
      rw [be_getD _ _ _ hlt] at hcx
      rw [hp] at hst hcx
      have hqi : (p : Int) / 8 = ((p / 8 : Nat) : Int) := by omega
      have hri : (p : Int) % 8 = ((p % 8 : Nat) : Int) := by omega
      generalize p / 8 = q at hst hwk hq hqi
      generalize p % 8 = r at hst hr hri
      have hco := hak.cell q (by omega)
      have hfo := hak.free q
      obtain ⟨hmod,hst⟩ := hst
      obtain ⟨x,hx⟩ : ∃ x,lk.getD q 0 = x := ⟨_,rfl⟩
      obtain ⟨c,hc⟩ : ∃ c,byteAt n p = c := ⟨_,rfl⟩
      rw [hx] at hwk hmod hst hco
      rw [hc] at hb hst hcx
      have hor := or_byte hr hwk hmod hb.1 hb.2
      have hq0 : (0 : Int) ≤ (q : Int) := by omega
      have hqL : (q : Int) < (L : Int) := by omega
      have hr0 : (0 : Int) ≤ (r : Int) * 8 := by omega
      have hr8 : (r : Int) * 8 < 64 := by omega
      have St := Lib.hid hst
      have Hor := Lib.hid hor
      have Hp := Lib.hid hp
      have Hlen := Lib.hid hlen
      have Hwk := Lib.hid hwk
      have Hmod := Lib.hid hmod
      clear hst hor hp hlen hx hc hat hwk hmod b2
      go_wp2_with fail
      go_region
      rw [Hor.out]
      go_wp2
      exact ⟨⟨j + 1,_,by omega,by go_num,St.out,hak.set _ _,(hB.setCell (p := ⟨w1.heap.size,q,none⟩) (Nat.le_refl _) _).drew⟩,by simp [intOf]; omega⟩
    · obtain rfl : j = m := by omega
      have hv := hat.done
      have hlen := hat.1
      have hwk := hat.2.1
      have hz := top_ne hwk hlen hv Hk.out Hm.out HL.out
      have bF := below_acc bB zB hB
      have Hv := Lib.hid hv
      have Hz := Lib.hid hz
      have Hlen := Lib.hid hlen
      clear hat hv hz hlen b2
      go_wp2_with fail
      go_ret
      exact ⟨w1.heap.size,L,_,rfl,⟨rfl,Nat.le_refl _,lk,hak,Hlen.out,hwk,by rw [List.take_of_length_le (by rw [Hlen.out]; exact Nat.le_refl _)]; exact Hv.out,Hz.out⟩,HLK.out,zB,bF⟩
end Go.Proofs.YtgccgacpifebbaaGreatDoor
namespace Go.Proofs.YtgccgacpifebbaaGreatDoor
open Go.RowKit
set_option linter.unusedVariables false
attribute [local go_sem] Oper.semAt_some
/-- What holds at round k. -/
def LeftI (w : World) (b len cap : Nat) (d : Int) (l : List Int) (k : Nat) (W : World) : Prop :=
  W.heap[w.heap.size + 1]? = some (.cells #[.int .u64 (seg l (len - k) k % d)] 23 (0,0)) ∧ W.heap[w.heap.size]? = some (.cells #[.int .u64 d] 23 (0,0)) ∧
  W.heap[w.heap.size + 1 + 1]? = some (.cells #[.slice (some ⟨b,0,none⟩) len cap] 24 (0,0)) ∧ Below w.heap.size w W
theorem leftI_own (w : World) (b len cap B : Nat) (d : Int) (l : List Int) (hB : w.heap.size ≤ B) : OwnFrom B (fun k W => LeftI w b len cap d l k W) := by
  rintro k W W' row ⟨h1,h2,h3,hg⟩ hgr hr
  have hr' := fun r e => (hr r e).2
  exact ⟨heap_cells h1 hgr hr',heap_cells h2 hgr hr',heap_cells h3 hgr hr',hg.grown hgr hg.size (fun j e => Nat.le_trans hB (hr j e).1)⟩
theorem left_step {l : List Int} {d : Int} {len k : Nat} (hk : k < len) (hl : len ≤ l.length) : (seg l (len - k) k % d * 18446744073709551616 + l.getD (len - 1 - k) 0) % d = seg l (len - (k + 1)) (k + 1) % d := by
  obtain ⟨j,hj⟩ : ∃ j,len - 1 - k = j := ⟨_,rfl⟩
  rw [hj,show len - k = j + 1 by omega,show len - (k + 1) = j by omega,seg_cons (by omega)]
  generalize seg l (j + 1) k = s
  have e : l.getD j 0 + 18446744073709551616 * s = s * 18446744073709551616 + l.getD j 0 := by omega
  rw [e,Int.add_emod,Int.mul_emod,Int.emod_emod_of_dvd _ (Int.dvd_refl d),← Int.mul_emod,← Int.add_emod]
set_option maxRecDepth 100000 in
set_option maxHeartbeats 4000000 in
theorem leftByWord_any (b t len cap : Nat) (l : List Int) (d : Int) (w : World) (ha : Arr w b t .u64 l) (hl : len ≤ l.length) (hm : len ≤ 4294967296) (hw : Words l) (hd : Word d) (h0 : d ≠ 0) :
    Calls Tryz.prog 51 #[.slice (some ⟨b,0,none⟩) len cap,.int .u64 d] w fun e w' => e = .returned (.int .u64 (val (l.take len) % d)) ∧ Below w.heap.size w w' := by
  have k1 := ha.lt
  have i0 : LeftI w b len cap d l 0 (((w.alloc (.cells #[.int .u64 d] 23)).alloc (.cells #[.int .u64 0] 23)).alloc (.cells #[.slice (some ⟨b,0,none⟩) len cap] 24)) := by
    refine ⟨?_,?_,?_,by go_grown⟩
    · rw [seg_zero,Int.zero_emod]; exact (heap_old _ _ _ (by simp)).trans (heap_new _ _ _ (by simp))
    · exact (heap_old _ _ _ (by simp; omega)).trans ((heap_old _ _ _ (by simp)).trans (heap_new _ _ _ rfl))
    · exact heap_new _ _ _ (by simp)
  have hz : (((w.alloc (.cells #[.int .u64 d] 23)).alloc (.cells #[.int .u64 0] 23)).alloc (.cells #[.slice (some ⟨b,0,none⟩) len cap] 24)).heap.size = w.heap.size + 1 + 1 + 1 := by simp
  refine (callsIn_wide (n := 5)).1 ?_
  refine callsIn_of_wp_marks Tryz.func51 rfl trivial ?_ rfl
  simp only [Tryz.ntmps51,List.size_toArray,List.length_cons,List.length_nil,Nat.reduceAdd,Nat.reduceSub,Array.replicate_succ,Array.replicate_zero,List.push_toArray,List.append_toArray,List.nil_append,List.cons_append]
  gi_wp2_with (refine ⟨trivial,?_⟩; gi_at_call 57; refine (back_in Fence.wide 4 trivial rfl _ _ _ _).mono ?_; rintro e w' ⟨rfl,rfl⟩)
  generalize (((w.alloc (.cells #[.int .u64 d] 23)).alloc (.cells #[.int .u64 0] 23)).alloc (.cells #[.slice (some ⟨b,0,none⟩) len cap] 24)) = W0 at i0 hz ⊢
  refine wpIn_steps rfl (by decide) (gf := 87) (lb := #[.pointer (some ⟨w.heap.size + 1 + 1,0,none⟩)]) rfl trivial (enters_of Tryz.func87 (by kernel_rfl) rfl)
    len (fun k => #[.int .i64 ((len - 1 - k : Nat) : Int),.int .u64 (l.getD (len - 1 - k) 0)]) (fun _ => rfl) (fun k W => LeftI w b len cap d l k W) (leftI_own w b len cap _ d l (by omega)) i0
    (fun l' J W hJ _ hY h0 => back_steps Fence.wide 4 trivial rfl (by decide) l' (w.heap.size + 1 + 1) len cap (some ⟨b,0,none⟩) (fun k => l.getD (len - 1 - k) 0) (by omega) J (fun k W h => ?cells) hY W h0)
    (fun k => { tmps := #[.slice (some ⟨b,0,none⟩) len cap,.int .u64 d,undef,.pointer (some ⟨w.heap.size,0,none⟩),.int .u64 0,.pointer (some ⟨w.heap.size + 1,0,none⟩),undef,.int .u64 (l.getD (len - 1 - k) 0),.slice (some ⟨b,0,none⟩) len cap,.func (.func 87) #[] #[.pointer (some ⟨w.heap.size + 1 + 1,0,none⟩)],.int .i64 ((len - 1 - k : Nat) : Int),.int .u64 (l.getD (len - 1 - k) 0),undef,undef,undef,undef,undef,undef,undef,undef],defers := [] }) ?assign ?body ?done
  case cells =>
    obtain ⟨_,h1,h2,hg⟩ := hJ k W h
    exact ⟨by rw [cell_of_row W _ 0 _ _ (0,0) h2]; rfl,fun hk => ⟨b,rfl,(ha.below hg k1).cell (len - 1 - k) (by omega)⟩⟩
  case assign =>
    intro l' k W K hK
    generalize l.getD (len - 1 - k) 0 = z at hK ⊢
    generalize len - 1 - k = j at hK ⊢
    gi_wp2
    exact hK
  case body =>
    rintro l' k W hk ⟨h1,h2,h3,hg⟩
    have st := left_step (d := d) hk hl
    have hx := hw.getD (len - 1 - k)
    generalize seg l (len - k) k = sg at st h1
    generalize l.getD (len - 1 - k) 0 = x at st hx ⊢
    generalize len - 1 - k = j
    obtain ⟨c,hc⟩ : ∃ c,sg % d = c := ⟨_,rfl⟩
    have c0 : 0 ≤ c := by rw [← hc]; exact Int.emod_nonneg _ h0
    have c1 : c < d := by rw [← hc]; exact Int.emod_lt_of_pos _ (by unfold Word at hd; omega)
    rw [hc] at st h1
    have q64 := div64_draws c x d ⟨c0,by unfold Word at hd; omega⟩ hx hd c1 W
    rw [st] at q64
    generalize (c * 18446744073709551616 + x) / d = q at q64
    obtain ⟨r,hr⟩ : ∃ r,seg l (len - (k + 1)) (k + 1) % d = r := ⟨_,rfl⟩
    rw [hr] at q64
    have b0 : W.cell? ⟨w.heap.size,0,none⟩ = some (.int .u64 d) := by rw [cell_of_row W _ 0 _ _ (0,0) h2]; rfl
    have b1 : W.cell? ⟨w.heap.size + 1,0,none⟩ = some (.int .u64 c) := by rw [cell_of_row W _ 0 _ _ (0,0) h1]; rfl
    have f1 : W.frozen? ⟨w.heap.size + 1,0,none⟩ = false := frozen_of_row W _ 0 _ _ h1
    have Hr := Lib.hid hr
    clear hr hc st
    gi_wp2_with (refine ⟨trivial,?_⟩; gi_at_call 76; refine (CallsIn.inRound l' (callsIn_wide.2 q64)).mono ?_; rintro e w' ⟨rfl,nd,rfl⟩)
    have kf := (KeepsOthers.setCell (W.drewN nd) ⟨w.heap.size + 1,0,none⟩ (.int .u64 r)).from W0.heap.size
    have oth : ∀ (s : Nat),s ≠ w.heap.size + 1 → ((W.drewN nd).setCell ⟨w.heap.size + 1,0,none⟩ (.int .u64 r)).heap[s]? = W.heap[s]? := fun s e1 => heap_setCell_other (W.drewN nd) ⟨w.heap.size + 1,0,none⟩ s _ e1
    refine ⟨⟨kf.size,kf.same⟩,?_,(oth _ (by omega)).trans h2,(oth _ (by omega)).trans h3,?_⟩
    · rw [Hr.out]; exact heap_setCell_same (W.drewN nd) _ 0 _ _ _ h1
    · exact (below_drewN hg nd).setCell (p := ⟨w.heap.size + 1,0,none⟩) (by show w.heap.size ≤ w.heap.size + 1; omega) _
  case done =>
    rintro D W hD ⟨h1,h2,h3,hg⟩ hK
    rw [Nat.sub_self,seg_all] at h1
    have b2 : W.cell? ⟨w.heap.size + 1,0,none⟩ = some (.int .u64 (val (l.take len) % d)) := by rw [cell_of_row W _ 0 _ _ (0,0) h1]; rfl
    obtain ⟨r,hr⟩ : ∃ r,val (l.take len) % d = r := ⟨_,rfl⟩
    rw [hr] at b2
    have Hr := Lib.hid hr
    clear hr
    gi_wp2
    rw [Hr.out]
    refine ⟨by simp,.inl ⟨_,_,rfl,run_takeDeferred hK,?_⟩⟩
    have hp := grownBy_putObj' W D (.deferred none)
    exact ⟨_,by simp [results,Tryz.results51],rfl,hg.grown hp hg.size (fun k e => by cases e; omega)⟩
end Go.Proofs.YtgccgacpifebbaaGreatDoor
