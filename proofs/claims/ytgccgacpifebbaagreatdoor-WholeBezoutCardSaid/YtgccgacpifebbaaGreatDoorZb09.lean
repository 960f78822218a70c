/- Ref0 NatFrom -/
import Derived.Test.YtgccgacpifebbaaGreatDoorZb03
import Derived.Test.YtgccgacpifebbaaGreatDoorZb08
import Derived.Lib.AppendZeros
import Derived.Deep.LoopGhost
import Derived.Laws.AppendOwnNone
namespace Go.Proofs.YtgccgacpifebbaaGreatDoor
open Go.RowKit
set_option linter.unusedVariables false
set_option maxHeartbeats 400000 in
theorem ltrim_any (b : Nat) (t : TypeId) (len cap : Nat) (l : List Int) (w : World) (ha : Arr w b t .u32 l) (hl : len ≤ cap) (hc : cap ≤ l.length) (hm : len ≤ 140737488355328) :
    Calls Tryz.prog 28 #[.slice (some ⟨b,0,none⟩) len cap] w fun e w' => e = .returned (.slice (some ⟨b,0,none⟩) (trimLen l len) cap) ∧ w = w' := by
  go_enter Tryz.func28,Tryz.ntmps28
  go_wp2
  go_loop [3] (fun i => ∃ k : Nat,k ≤ len ∧ i = .int .i64 k ∧ trimLen l len = trimLen l k) (fun i => (intOf i).toNat)
  case atStart => exact ⟨len,Nat.le_refl _,rfl,rfl⟩
  case round =>
    obtain ⟨k,hk,rfl,he⟩ := hrel
    have He := Lib.hid he
    clear he
    cases k with
    | zero =>
      go_wp2
      go_ret
      exact ⟨by rw [He.out]; rfl,rfl⟩
    | succ k =>
      have hcell := ha.cell k (by omega)
      by_cases hz : l.getD k 0 = 0
      · rw [hz] at hcell
        have Hz := Lib.hid hz
        clear hz
        go_wp2
        exact ⟨⟨k,by omega,rfl,by rw [He.out,trimLen_zero Hz.out]⟩,by simp [intOf]⟩
      · have hz' : (l.getD k 0 == 0) = false := by simpa using hz
        have Hz := Lib.hid hz
        clear hz
        generalize l.getD k 0 = x at hcell hz'
        go_wp2
        go_ret
        exact ⟨by rw [He.out,trimLen_stop Hz.out]; rfl,rfl⟩
set_option maxRecDepth 100000 in
theorem natBits_any (b : Nat) (t : TypeId) (len cap : Nat) (l : List Int) (w : World) (ha : Arr w b t .u32 l) (hl : len + 1 ≤ l.length) (hm : len + 1 ≤ 140737488355328) (hw : Limbs l) :
    Calls Tryz.prog 70 #[.slice (some ⟨b,0,none⟩) (len + 1) cap] w fun e w' => e = .returned (.int .i64 ((32 * len + Lib.bitLen (l.getD len 0).toNat : Nat))) ∧ w = w' := by
  obtain ⟨h0,h1⟩ := hw.getD len
  have hc := ha.cell len (by omega)
  generalize l.getD len 0 = x at h0 h1 hc ⊢
  obtain ⟨X,rfl⟩ := Int.eq_ofNat_of_zero_le h0
  rw [Int.toNat_natCast]
  obtain ⟨T,hT⟩ : ∃ T,32 * len + Lib.bitLen X = T := ⟨_,rfl⟩
  rw [hT]
  have hT2 : T ≤ 32 * len + 64 := by have := Lib.bitLen_le X 64 (by decide) (by omega); omega
  have HT := Lib.hid hT
  have H1 := Lib.hid h1
  clear hT h1
  have e0 : ((len : Int) + 1 == 0) = false := by simp; omega
  go_enter Tryz.func70,Tryz.ntmps70
  go_wp2_with fail
  go_loop [3,4] (fun n x => ∃ Y k : Nat,x = .int .u32 Y ∧ n = .int .i64 k ∧ Y ≤ X ∧ k + Lib.bitLen Y = T) (fun _ x => (intOf x).toNat)
  case atStart => exact ⟨X,32 * len,rfl,by go_num,Nat.le_refl _,HT.out⟩
  case round =>
    obtain ⟨Y,k,rfl,rfl,hY,hk⟩ := hrel
    have hk2 : k ≤ T := by omega
    have Hk := Lib.hid hk
    clear hk e0
    by_cases h : Y = 0
    · subst h
      go_wp2_with fail
      go_ret
      have := Hk.out
      have e : Lib.bitLen 0 = 0 := Lib.bitLenAux_zero 64
      exact ⟨by rw [show T = k by omega]; rfl,rfl⟩
    · have hpos : 0 < Y := by omega
      have Hn := Lib.hid h
      clear h
      go_wp2_with fail
      have hh := Lib.bitLen_half Y Hn.out (by have := H1.out; omega)
      have := Hk.out
      exact ⟨⟨Y / 2,k + 1,by go_num,by go_num,by omega,by omega⟩,by simp [intOf]; omega⟩
theorem natBits_zero (a : Option Addr) (cap : Nat) (w : World) :
    Calls Tryz.prog 70 #[.slice a 0 cap] w fun e w' => e = .returned (.int .i64 0) ∧ w = w' := by
  go_enter Tryz.func70,Tryz.ntmps70
  go_wp2
  go_ret
  exact ⟨rfl,rfl⟩
/-- The bytes of n are answered,in new memory. -/
def RetBytes (n : Int) (w : World) (e : Ending) (w' : World) : Prop := ∃ (b : Nat) (k m : Nat),e = .returned (.slice (some ⟨b,0,none⟩) m m) ∧ IsBits n k ∧ m = (k + 7) / 8 ∧ Arr w' b 5 .u8 (be n m) ∧ w.heap.size ≤ b ∧ Below w.heap.size w w'
theorem info8 : (Tryz.prog.info? 5).map (fun i => (i.zero,i.size,i.bytes)) = some (some (.int .u8 0),1,1) := by kernel_rfl
theorem make8 (n : Nat) (i : Int) (hi : i = n) (hn : n ≤ 281474976710656) (w : World) :
    (Instr.makeSlice 22 (.int .i64 i) (.int .i64 i)).run Tryz.prog w = .ok (.slice (some ⟨w.heap.size,0,none⟩) n n) (w.alloc (.cells (zeros .u8 n) 5)) := by
  subst hi
  obtain ⟨i0,hi,hz0,hz1,hz2⟩ := info_parts info8
  have hr := run_make (P := Tryz.prog) w 22 5 i0 _ Tryz.underlying22 hi hz0 .i64 .i64 n n (by omega) (Int.le_refl _) (by rw [hz2]; omega) (by omega)
  rw [hr,Int.toNat_natCast,hz1,Nat.mul_one]
  show Result.ok _ (w.alloc (.cells (madeCells #[.int .u8 0] n) 5)) = _
  rw [madeCells_zeros]
/-- What lies in the row behind k rounds: the lowest k bytes,at its end. -/
def BytesAt (n : Int) (m k : Nat) (lk : List Int) : Prop := lk.length = m ∧ ∀ j,j < m → m - k ≤ j → lk.getD j 0 = byteAt n (m - 1 - j)
theorem BytesAt.step {n : Int} {m k : Nat} {lk : List Int} (h : BytesAt n m k lk) (hk : k < m) {x : Int} (hx : x = byteAt n k) : BytesAt n m (k + 1) (lk.set (m - 1 - k) x) := by
  refine ⟨by rw [List.length_set]; exact h.1,fun j hj hj2 => ?_⟩
  rw [getD_set _ _ _ _ (by rw [h.1]; omega)]
  by_cases e : j = m - 1 - k
  · rw [if_pos e,hx]; congr 1; omega
  · rw [if_neg e]; exact h.2 j hj (by omega)
theorem two_256 (k : Nat) : (2 : Int) ^ (8 * k) = 256 ^ k := by rw [Int.pow_mul]; rfl
set_option maxRecDepth 100000 in
set_option maxHeartbeats 1000000 in
theorem natBytes_pos (b : Nat) (t : TypeId) (len cap : Nat) (l : List Int) (w : World) (ha : Arr w b t .u32 l) (hl : len + 1 ≤ l.length) (hm : len + 1 ≤ 4294967296) (hw : Limbs l) (hz : l.getD len 0 ≠ 0) :
    Calls Tryz.prog 63 #[.slice (some ⟨b,0,none⟩) (len + 1) cap] w (RetBytes (lval (l.take (len + 1))) w) := by
  have hwl := hw.getD len
  obtain ⟨K,hK⟩ : ∃ K,32 * len + Lib.bitLen (l.getD len 0).toNat = K := ⟨_,rfl⟩
  have nb := fun w' (h : Arr w' b t .u32 l) => natBits_any b t len cap l w' h hl (by omega) hw
  rw [hK] at nb
  have hbits : IsBits (lval (l.take (len + 1))) K := by
    have hs := lseg_bd hw 0 len (by omega)
    rw [← lseg_all,lseg_succ (by omega),Nat.zero_add,← hK]
    exact isBits_top (lpw_two len) hs.1 hs.2 hz (isBits_word ⟨hwl.1,by unfold Limb at hwl; omega⟩) hwl.1
  have hB : Lib.bitLen (l.getD len 0).toNat ≤ 32 := Lib.bitLen_le _ 32 (by decide) (by unfold Limb at hwl; omega)
  have hK1 : K ≤ 32 * len + 32 := by omega
  obtain ⟨m,hM⟩ : ∃ m,(K + 7) / 8 = m := ⟨_,rfl⟩
  have hm1 : m ≤ 4 * len + 4 := by omega
  have hi : (((K : Int) + 7) / 8) = (m : Int) := by omega
  have hmk := make8 m m rfl (by omega)
  have Hb := Lib.hid (And.intro hbits (And.intro hM hz))
  have Nb := Lib.hid nb
  have Hi := Lib.hid hi
  clear hbits hM hz nb hB hK hwl hi
  go_enter Tryz.func63,Tryz.ntmps63
  go_wp2_with fail
  refine (Nb.out _ ha).mono ?_
  rintro e w' ⟨rfl,rfl⟩
  go_wp2_with (rw [Hi.out])
  go_loopw [5] (fun i wr => ∃ (k : Nat) (lk : List Int),k ≤ m ∧ i = .int .i64 k ∧ BytesAt (lval (l.take (len + 1))) m k lk ∧ Arr wr w.heap.size 5 .u8 lk ∧ Below w.heap.size w wr) (fun i _ => m - (intOf i).toNat)
  case atStart => exact ⟨0,_,Nat.zero_le _,rfl,⟨by simp,fun j hj h => by omega⟩,Arr.zeros _ _ _ _ _ rfl,by go_grown⟩
  case round =>
    obtain ⟨k,lk,hk,rfl,hat,hak,hB⟩ := hrel
    by_cases hlt : k < m
    · obtain ⟨j,hj⟩ : ∃ j : Nat,m - 1 - k = j := ⟨_,rfl⟩
      have hjm : j < m := by omega
      have hji : (m : Int) - 1 - k = j := by omega
      have hlen := hat.1
      have hco := hak.cell j (by omega)
      have hfo := hak.free j
      have hq : k / 4 < len + 1 := by omega
      have hcx := (ha.below hB ha.lt).cell (k / 4) (by omega)
      have wx := hw.getD (k / 4)
      obtain ⟨x,hx⟩ : ∃ x,l.getD (k / 4) 0 = x := ⟨_,rfl⟩
      rw [hx] at hcx wx
      have Hx := Lib.hid hx
      have Hj := Lib.hid hj
      have Hlen := Lib.hid hlen
      have Wx := Lib.hid wx
      generalize lk.getD j 0 = y at hco
      clear hx hj hlen wx
      go_wp2_with fail
      have hb := hat.step hlt (x := x / 2 ^ (8 * (k % 4)) % 256) (by rw [lbyteAt_val hw hl hq,Hx.out,two_256])
      rw [Hj.out] at hb
      exact ⟨⟨k + 1,_,by omega,by go_num,hb,hak.set _ _,hB.setCell (p := ⟨w.heap.size,j,none⟩) (Nat.le_refl _) _⟩,by simp [intOf]; omega⟩
    · obtain rfl : k = m := by omega
      go_wp2_with fail
      go_ret
      have he := eq_be hat.1 (fun j hj => hat.2 j hj (by omega))
      rw [he] at hak
      exact ⟨_,K,k,rfl,Hb.out.1,Hb.out.2.1.symm,hak,Nat.le_refl _,hB⟩
set_option maxRecDepth 100000 in
set_option maxHeartbeats 1000000 in
theorem natBytes_zero (a : Option Addr) (cap : Nat) (w : World) :
    Calls Tryz.prog 63 #[.slice a 0 cap] w (RetBytes 0 w) := by
  have hmk := make8 0 0 rfl (by omega)
  go_enter Tryz.func63,Tryz.ntmps63
  go_wp2_with fail
  refine (natBits_zero a cap _).mono ?_
  rintro e w' ⟨rfl,rfl⟩
  go_wp2_with fail
  go_rounds 1
  go_ret
  exact ⟨_,0,0,rfl,isBits_zero,rfl,Arr.zeros _ _ _ 0 _ rfl,Nat.le_refl _,by go_grown⟩
end Go.Proofs.YtgccgacpifebbaaGreatDoor
namespace Go.Proofs.YtgccgacpifebbaaGreatDoor
open Go.RowKit
set_option linter.unusedVariables false
theorem info32 : (Tryz.prog.info? 61).map (fun i => (i.zero,i.size,i.bytes)) = some (some (.int .u32 0),1,4) := by kernel_rfl
theorem make32 (n : Nat) (i : Int) (hi : i = n) (hn : n ≤ 35184372088832) (w : World) :
    (Instr.makeSlice 30 (.int .i64 i) (.int .i64 i)).run Tryz.prog w = .ok (.slice (some ⟨w.heap.size,0,none⟩) n n) (w.alloc (.cells (zeros .u32 n) 61)) := by
  subst hi
  obtain ⟨i0,hi,hz0,hz1,hz2⟩ := info_parts info32
  have hr := run_make (P := Tryz.prog) w 30 61 i0 _ Tryz.underlying30 hi hz0 .i64 .i64 n n (by omega) (Int.le_refl _) (by rw [hz2]; omega) (by omega)
  rw [hr,Int.toNat_natCast,hz1,Nat.mul_one]
  show Result.ok _ (w.alloc (.cells (madeCells #[.int .u32 0] n) 61)) = _
  rw [madeCells_zeros]
theorem or_limb {x y : Int} (hx : Limb x) (hy : Limb y) : Limb (bits .or .u32 x y) := by
  obtain ⟨X,rfl⟩ := Int.eq_ofNat_of_zero_le hx.1
  obtain ⟨Y,rfl⟩ := Int.eq_ofNat_of_zero_le hy.1
  have h1 := hx.2
  have h2 := hy.2
  rw [u32_or_nat X Y (by omega) (by omega)]
  have := Nat.or_lt_two_pow (x := X) (y := Y) (n := 32) (by omega) (by omega)
  exact ⟨by omega,by omega⟩
set_option maxRecDepth 100000 in
set_option maxHeartbeats 1000000 in
theorem natFrom_any (b t len cap : Nat) (l : List Int) (w : World) (ha : Arr w b t .u8 l) (hl : len ≤ l.length) (hm : len ≤ 48) (hby : ∀ x ∈ l,0 ≤ x ∧ x < 256) :
    Calls Tryz.prog 7 #[.slice (some ⟨b,0,none⟩) len cap] w fun e w' => (∃ g n l,e = .returned (.slice (some ⟨g,0,none⟩) n ((len + 3) / 4)) ∧ Arr w' g 61 .u32 l ∧ l.length = (len + 3) / 4 ∧ Limbs l ∧ n ≤ (len + 3) / 4 ∧ (n ≠ 0 → l.getD (n - 1) 0 ≠ 0)) ∧ Below w.heap.size w w' := by
  obtain ⟨L,hL⟩ : ∃ L,(len + 3) / 4 = L := ⟨_,rfl⟩
  rw [hL]
  have hi : (((len : Int) + 3) / 4) = (L : Int) := by omega
  have hmk := make32 L L rfl (by omega)
  have k1 := ha.lt
  have HL := Lib.hid hL
  clear hL
  go_enter Tryz.func7,Tryz.ntmps7
  go_wp2_with (rw [hi])
  go_loopw [4] (fun i wr => ∃ (k : Nat) (lk : List Int),k ≤ len ∧ i = .int .i64 k ∧ lk.length = L ∧ Limbs lk ∧ Arr wr w.heap.size 61 .u32 lk ∧ Below w.heap.size w wr) (fun i _ => len - (intOf i).toNat)
  case atStart => exact ⟨0,_,Nat.zero_le _,rfl,by simp,Limbs.replicate L,Arr.zeros _ _ _ L _ rfl,by go_grown⟩
  case round =>
    obtain ⟨k,lk,hk,rfl,hlen,hwk,hak,hB⟩ := hrel
    by_cases hlt : k < len
    · obtain ⟨p,hp⟩ : ∃ p : Nat,len - 1 - k = p := ⟨_,rfl⟩
      have hpi : (len : Int) - 1 - k = p := by omega
      have hr := Nat.mod_lt p (show 4 > 0 by decide)
      have hq : p / 4 < L := by have := HL.out; omega
      have hcx := (ha.below hB k1).cell k (by omega)
      have hb : 0 ≤ l.getD k 0 ∧ l.getD k 0 < 256 := by
        rw [List.getD_eq_getElem?_getD,List.getElem?_eq_getElem (by omega)]
        exact hby _ (List.getElem_mem _)
      have hqi : (p : Int) / 4 = ((p / 4 : Nat) : Int) := by omega
      have hri : (p : Int) % 4 = ((p % 4 : Nat) : Int) := by omega
      generalize p / 4 = q at hq hqi
      generalize p % 4 = r at hr hri
      have hco := hak.cell q (by omega)
      have hfo := hak.free q
      have hx := hwk.getD q
      generalize lk.getD q 0 = x at hco hx
      generalize l.getD k 0 = c at hcx hb
      have hq0 : (0 : Int) ≤ (q : Int) := by omega
      have hqL : (q : Int) < (L : Int) := by omega
      have hr0 : (0 : Int) ≤ 8 * (r : Int) := by omega
      have hr8 : 8 * (r : Int) < 32 := by omega
      have hset := fun y (hy : Limb y) => hwk.set q (or_limb hx hy)
      have Hset := Lib.hid hset
      have Hp := Lib.hid hp
      have Hlen := Lib.hid hlen
      have Hx := Lib.hid hx
      have Hwk := Lib.hid hwk
      clear hset hp hlen hx hwk hby
      go_wp2_with fail
      go_region
      have hy : Limb (c * 2 ^ (8 * r) % 4294967296) := ⟨Int.emod_nonneg _ (by decide),Int.emod_lt_of_pos _ (by decide)⟩
      generalize c * 2 ^ (8 * r) % 4294967296 = y at hy ⊢
      have hnew := Hset.out y hy
      go_wp2
      exact ⟨⟨k + 1,_,by omega,by go_num,by rw [List.length_set]; exact Hlen.out,hnew,hak.set _ _,(hB.setCell (p := ⟨w.heap.size,q,none⟩) (Nat.le_refl _) _).drew⟩,by simp [intOf]; omega⟩
    · obtain rfl : k = len := by omega
      have ht1 := trimLen_le lk L
      have ht2 := trimLen_last lk L
      go_wp2_with fail
      refine (ltrim_any w.heap.size 61 L L lk wr hak (Nat.le_refl _) (by omega) (by have := HL.out; omega)).mono ?_
      rintro e w1 ⟨rfl,rfl⟩
      generalize trimLen lk L = m at ht1 ht2
      have Ht2 := Lib.hid ht2
      clear ht2
      go_wp2
      go_ret
      exact ⟨⟨_,m,lk,rfl,hak,hlen,hwk,ht1,Ht2.out⟩,hB⟩
end Go.Proofs.YtgccgacpifebbaaGreatDoor
namespace Go.Proofs.YtgccgacpifebbaaGreatDoor
open Go.RowKit
set_option linter.unusedVariables false
def Bytes8 (l : List Int) : Prop := ∀ x ∈ l,0 ≤ x ∧ x < 256
theorem zeroCells_u8 (n : Nat) : Builtin.zeroCells (Value.int .u8 0).cells n = ((List.replicate n (0 : Int)).map (Value.int .u8)).toArray := by
  rw [← Array.toList_inj]
  have h : (Value.int .u8 0).cells = #[Value.int .u8 0] := rfl
  rw [h]
  simp [Builtin.zeroCells,Nat.mod_one]
  exact List.map_const' .. |>.trans (by simp)
end Go.Proofs.YtgccgacpifebbaaGreatDoor
namespace Go.Proofs.YtgccgacpifebbaaGreatDoor
open Go.RowKit
set_option linter.unusedVariables false
theorem natBytes_of (n : Int) (b len cap : Nat) (t : TypeId) (l : List Int) (w : World) (ha : Arr w b t .u32 l) (hl : len ≤ l.length) (hm : len ≤ 4294967296) (hw : Limbs l) (hz : len ≠ 0 → l.getD (len - 1) 0 ≠ 0) (hv : lval (l.take len) = n) :
    Calls Tryz.prog 63 #[.slice (some ⟨b,0,none⟩) len cap] w (RetBytes n w) := by
  cases len with
  | zero =>
    have : n = 0 := by rw [← hv]; simp [lval]
    subst this
    exact natBytes_zero _ _ _
  | succ k =>
    rw [← hv]
    exact natBytes_pos b t k cap l w ha hl hm hw (by simpa using hz (by omega))
end Go.Proofs.YtgccgacpifebbaaGreatDoor
