/- Contracts of the document's numbers: trim,NatOf,NatBits,NatBytes. -/
import Derived.Test.YtogildikglomkaaGreatDoorLimb
import Derived.Test.YtogildikglomkaaGreatDoorKnown
namespace Go.Proofs.YtogildikglomkaaGreatDoor
open Go.RowKit
set_option linter.unusedVariables false

set_option maxHeartbeats 400000 in
theorem ltrim_any (b : Nat) (t : TypeId) (len cap : Nat) (l : List Int) (w : World) (ha : Arr w b t .u32 l) (hl : len ≤ cap) (hc : cap ≤ l.length) (hm : len ≤ 140737488355328) :
    Calls Tryz.prog 59 #[.slice (some ⟨b,0,none⟩) len cap] w fun e w' => e = .returned (.slice (some ⟨b,0,none⟩) (trimLen l len) cap) ∧ w = w' := by
  go_enter Tryz.func59,Tryz.ntmps59
  go_wp2
  go_loop [3] (fun i => ∃ k : Nat,k ≤ len ∧ i = .int .i64 k ∧ trimLen l len = trimLen l k) (fun i => (intOf i).toNat)
  case atStart => exact ⟨len,Nat.le_refl _,rfl,rfl⟩
  case round =>
    obtain ⟨k,hk,rfl,he⟩ := hrel
    have He := Lib.hid he
    clear he
    cases k with
    | zero =>
      go_wp2
      go_ret
      exact ⟨by rw [He.out]; rfl,rfl⟩
    | succ k =>
      have hcell := ha.cell k (by omega)
      by_cases hz : l.getD k 0 = 0
      · rw [hz] at hcell
        have Hz := Lib.hid hz
        clear hz
        go_wp2
        exact ⟨⟨k,by omega,rfl,by rw [He.out,trimLen_zero Hz.out]⟩,by simp [intOf]⟩
      · have hz' : (l.getD k 0 == 0) = false := by simpa using hz
        have Hz := Lib.hid hz
        clear hz
        generalize l.getD k 0 = x at hcell hz'
        go_wp2
        go_ret
        exact ⟨by rw [He.out,trimLen_stop Hz.out]; rfl,rfl⟩

theorem natOf_any (n : Int) (hn : Word n) (w : World) :
    Calls Tryz.prog 91 #[.int .u64 n] w fun e w' => (∃ b len l,e = .returned (.slice (some ⟨b,0,none⟩) len 2) ∧ Arr w' b 101 .u32 l ∧ l.length = 2 ∧ Limbs l ∧ len ≤ 2 ∧ (len ≠ 0 → l.getD (len - 1) 0 ≠ 0) ∧ lval (l.take len) = n) ∧ Below w.heap.size w w' := by
  go_enter Tryz.func91,Tryz.ntmps91
  have hw1 : Limbs [n % 4294967296,n / 4294967296 % 4294967296] := Limbs.cons ⟨by omega,by omega⟩ (Limbs.cons ⟨by omega,by omega⟩ Limbs.nil)
  have hv : lval [n % 4294967296,n / 4294967296 % 4294967296] = n := by simp only [lval]; unfold Word at hn; omega
  have Hw := Lib.hid hw1
  have Hv := Lib.hid hv
  clear hw1 hv
  go_wp2_with fail
  generalize n % 4294967296 = lo at *
  generalize n / 4294967296 % 4294967296 = hi at *
  have ha : Arr (w.alloc (.cells #[.int .u32 lo,.int .u32 hi] 101)) w.heap.size 101 .u32 [lo,hi] := Arr.new w _ _ [lo,hi] _ rfl
  refine (ltrim_any w.heap.size 101 2 2 [lo,hi] _ ha (Nat.le_refl _) (by simp) (by simp)).mono ?_
  rintro e w' ⟨rfl,rfl⟩
  have l1 := trimLen_le [lo,hi] 2
  have l2 := trimLen_last [lo,hi] 2
  have l3 := lval_trim [lo,hi] 2 (by simp)
  generalize trimLen [lo,hi] 2 = m at l1 l2 l3 ⊢
  have H2 := Lib.hid l2
  have H3 := Lib.hid l3
  clear l2 l3
  go_wp2_with fail
  go_ret
  exact ⟨⟨_,m,_,rfl,ha,rfl,Hw.out,l1,H2.out,by rw [H3.out]; exact Hv.out⟩,by go_grown⟩

set_option maxRecDepth 100000 in
theorem natBits_any (b : Nat) (t : TypeId) (len cap : Nat) (l : List Int) (w : World) (ha : Arr w b t .u32 l) (hl : len + 1 ≤ l.length) (hm : len + 1 ≤ 140737488355328) (hw : Limbs l) :
    Calls Tryz.prog 92 #[.slice (some ⟨b,0,none⟩) (len + 1) cap] w fun e w' => e = .returned (.int .i64 ((32 * len + Lib.bitLen (l.getD len 0).toNat : Nat))) ∧ w = w' := by
  obtain ⟨h0,h1⟩ := hw.getD len
  have hc := ha.cell len (by omega)
  generalize l.getD len 0 = x at h0 h1 hc ⊢
  obtain ⟨X,rfl⟩ := Int.eq_ofNat_of_zero_le h0
  rw [Int.toNat_natCast]
  obtain ⟨T,hT⟩ : ∃ T,32 * len + Lib.bitLen X = T := ⟨_,rfl⟩
  rw [hT]
  have hT2 : T ≤ 32 * len + 64 := by have := Lib.bitLen_le X 64 (by decide) (by omega); omega
  have HT := Lib.hid hT
  have H1 := Lib.hid h1
  clear hT h1
  have e0 : ((len : Int) + 1 == 0) = false := by simp; omega
  go_enter Tryz.func92,Tryz.ntmps92
  go_wp2_with fail
  go_loop [3,4] (fun n x => ∃ Y k : Nat,x = .int .u32 Y ∧ n = .int .i64 k ∧ Y ≤ X ∧ k + Lib.bitLen Y = T) (fun _ x => (intOf x).toNat)
  case atStart => exact ⟨X,32 * len,rfl,by go_num,Nat.le_refl _,HT.out⟩
  case round =>
    obtain ⟨Y,k,rfl,rfl,hY,hk⟩ := hrel
    have hk2 : k ≤ T := by omega
    have Hk := Lib.hid hk
    clear hk e0
    by_cases h : Y = 0
    · subst h
      go_wp2_with fail
      go_ret
      have := Hk.out
      have e : Lib.bitLen 0 = 0 := Lib.bitLenAux_zero 64
      exact ⟨by rw [show T = k by omega]; rfl,rfl⟩
    · have hpos : 0 < Y := by omega
      have Hn := Lib.hid h
      clear h
      go_wp2_with fail
      have hh := Lib.bitLen_half Y Hn.out (by have := H1.out; omega)
      have := Hk.out
      exact ⟨⟨Y / 2,k + 1,by go_num,by go_num,by omega,by omega⟩,by simp [intOf]; omega⟩
theorem natBits_zero (a : Option Addr) (cap : Nat) (w : World) :
    Calls Tryz.prog 92 #[.slice a 0 cap] w fun e w' => e = .returned (.int .i64 0) ∧ w = w' := by
  go_enter Tryz.func92,Tryz.ntmps92
  go_wp2
  go_ret
  exact ⟨rfl,rfl⟩

/-- The bytes of n are answered,in new memory. -/
def RetBytes (n : Int) (w : World) (e : Ending) (w' : World) : Prop := ∃ (b : Nat) (k m : Nat),e = .returned (.slice (some ⟨b,0,none⟩) m m) ∧ IsBits n k ∧ m = (k + 7) / 8 ∧ Arr w' b 5 .u8 (be n m) ∧ w.heap.size ≤ b ∧ Below w.heap.size w w'

theorem info8 : (Tryz.prog.info? 5).map (fun i => (i.zero,i.size,i.bytes)) = some (some (.int .u8 0),1,1) := by kernel_rfl
theorem make8 (n : Nat) (i : Int) (hi : i = n) (hn : n ≤ 281474976710656) (w : World) :
    (Instr.makeSlice 45 (.int .i64 i) (.int .i64 i)).run Tryz.prog w = .ok (.slice (some ⟨w.heap.size,0,none⟩) n n) (w.alloc (.cells (zeros .u8 n) 5)) := by
  subst hi
  obtain ⟨i0,hi,hz0,hz1,hz2⟩ := info_parts info8
  have hr := run_make (P := Tryz.prog) w 45 5 i0 _ Tryz.underlying45 hi hz0 .i64 .i64 n n (by omega) (Int.le_refl _) (by rw [hz2]; omega) (by omega)
  rw [hr,Int.toNat_natCast,hz1,Nat.mul_one]
  show Result.ok _ (w.alloc (.cells (madeCells #[.int .u8 0] n) 5)) = _
  rw [madeCells_zeros]

/-- What lies in the row behind k rounds: the lowest k bytes,at its end. -/
def BytesAt (n : Int) (m k : Nat) (lk : List Int) : Prop := lk.length = m ∧ ∀ j,j < m → m - k ≤ j → lk.getD j 0 = byteAt n (m - 1 - j)
theorem BytesAt.step {n : Int} {m k : Nat} {lk : List Int} (h : BytesAt n m k lk) (hk : k < m) {x : Int} (hx : x = byteAt n k) : BytesAt n m (k + 1) (lk.set (m - 1 - k) x) := by
  refine ⟨by rw [List.length_set]; exact h.1,fun j hj hj2 => ?_⟩
  rw [getD_set _ _ _ _ (by rw [h.1]; omega)]
  by_cases e : j = m - 1 - k
  · rw [if_pos e,hx]; congr 1; omega
  · rw [if_neg e]; exact h.2 j hj (by omega)

theorem two_256 (k : Nat) : (2 : Int) ^ (8 * k) = 256 ^ k := by rw [Int.pow_mul]; rfl

set_option maxRecDepth 100000 in
set_option maxHeartbeats 1000000 in
theorem natBytes_pos (b : Nat) (t : TypeId) (len cap : Nat) (l : List Int) (w : World) (ha : Arr w b t .u32 l) (hl : len + 1 ≤ l.length) (hm : len + 1 ≤ 4294967296) (hw : Limbs l) (hz : l.getD len 0 ≠ 0) :
    Calls Tryz.prog 95 #[.slice (some ⟨b,0,none⟩) (len + 1) cap] w (RetBytes (lval (l.take (len + 1))) w) := by
  have hwl := hw.getD len
  obtain ⟨K,hK⟩ : ∃ K,32 * len + Lib.bitLen (l.getD len 0).toNat = K := ⟨_,rfl⟩
  have nb := fun w' (h : Arr w' b t .u32 l) => natBits_any b t len cap l w' h hl (by omega) hw
  rw [hK] at nb
  have hbits : IsBits (lval (l.take (len + 1))) K := by
    have hs := lseg_bd hw 0 len (by omega)
    rw [← lseg_all,lseg_succ (by omega),Nat.zero_add,← hK]
    exact isBits_top (lpw_two len) hs.1 hs.2 hz (isBits_word ⟨hwl.1,by unfold Limb at hwl; omega⟩) hwl.1
  have hB : Lib.bitLen (l.getD len 0).toNat ≤ 32 := Lib.bitLen_le _ 32 (by decide) (by unfold Limb at hwl; omega)
  have hK1 : K ≤ 32 * len + 32 := by omega
  obtain ⟨m,hM⟩ : ∃ m,(K + 7) / 8 = m := ⟨_,rfl⟩
  have hm1 : m ≤ 4 * len + 4 := by omega
  have hi : (((K : Int) + 7) / 8) = (m : Int) := by omega
  have hmk := make8 m m rfl (by omega)
  have Hb := Lib.hid (And.intro hbits (And.intro hM hz))
  have Nb := Lib.hid nb
  have Hi := Lib.hid hi
  clear hbits hM hz nb hB hK hwl hi
  go_enter Tryz.func95,Tryz.ntmps95
  go_wp2_with fail
  refine (Nb.out _ ha).mono ?_
  rintro e w' ⟨rfl,rfl⟩
  go_wp2_with (rw [Hi.out])
  go_loopw [5] (fun i wr => ∃ (k : Nat) (lk : List Int),k ≤ m ∧ i = .int .i64 k ∧ BytesAt (lval (l.take (len + 1))) m k lk ∧ Arr wr w.heap.size 5 .u8 lk ∧ Below w.heap.size w wr) (fun i _ => m - (intOf i).toNat)
  case atStart => exact ⟨0,_,Nat.zero_le _,rfl,⟨by simp,fun j hj h => by omega⟩,Arr.zeros _ _ _ _ _ rfl,by go_grown⟩
  case round =>
    obtain ⟨k,lk,hk,rfl,hat,hak,hB⟩ := hrel
    by_cases hlt : k < m
    · obtain ⟨j,hj⟩ : ∃ j : Nat,m - 1 - k = j := ⟨_,rfl⟩
      have hjm : j < m := by omega
      have hji : (m : Int) - 1 - k = j := by omega
      have hlen := hat.1
      have hco := hak.cell j (by omega)
      have hfo := hak.free j
      have hq : k / 4 < len + 1 := by omega
      have hcx := (ha.below hB ha.lt).cell (k / 4) (by omega)
      have wx := hw.getD (k / 4)
      obtain ⟨x,hx⟩ : ∃ x,l.getD (k / 4) 0 = x := ⟨_,rfl⟩
      rw [hx] at hcx wx
      have Hx := Lib.hid hx
      have Hj := Lib.hid hj
      have Hlen := Lib.hid hlen
      have Wx := Lib.hid wx
      generalize lk.getD j 0 = y at hco
      clear hx hj hlen wx
      go_wp2_with fail
      have hb := hat.step hlt (x := x / 2 ^ (8 * (k % 4)) % 256) (by rw [lbyteAt_val hw hl hq,Hx.out,two_256])
      rw [Hj.out] at hb
      exact ⟨⟨k + 1,_,by omega,by go_num,hb,hak.set _ _,hB.setCell (p := ⟨w.heap.size,j,none⟩) (Nat.le_refl _) _⟩,by simp [intOf]; omega⟩
    · obtain rfl : k = m := by omega
      go_wp2_with fail
      go_ret
      have he := eq_be hat.1 (fun j hj => hat.2 j hj (by omega))
      rw [he] at hak
      exact ⟨_,K,k,rfl,Hb.out.1,Hb.out.2.1.symm,hak,Nat.le_refl _,hB⟩
set_option maxRecDepth 100000 in
set_option maxHeartbeats 1000000 in
theorem natBytes_zero (a : Option Addr) (cap : Nat) (w : World) :
    Calls Tryz.prog 95 #[.slice a 0 cap] w (RetBytes 0 w) := by
  have hmk := make8 0 0 rfl (by omega)
  go_enter Tryz.func95,Tryz.ntmps95
  go_wp2_with fail
  refine (natBits_zero a cap _).mono ?_
  rintro e w' ⟨rfl,rfl⟩
  go_wp2_with fail
  go_rounds 1
  go_ret
  exact ⟨_,0,0,rfl,isBits_zero,rfl,Arr.zeros _ _ _ 0 _ rfl,Nat.le_refl _,by go_grown⟩
end Go.Proofs.YtogildikglomkaaGreatDoor
