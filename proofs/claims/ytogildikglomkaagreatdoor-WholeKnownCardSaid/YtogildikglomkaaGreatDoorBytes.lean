/- Contract of (Nat).Bytes: a number's bytes,the highest first. Written by tools/gen_bytes.py. -/
import Derived.Test.YtogildikglomkaaGreatDoorRef0
namespace Go.Proofs.YtogildikglomkaaGreatDoor
open Go.RowKit
set_option linter.unusedVariables false

set_option maxRecDepth 100000 in
set_option maxHeartbeats 1000000 in
theorem bytes_word (n : Int) (hn : Word n) (w : World) :
    Calls Tryz.prog 64 #[.agg #[.int .u64 n,.slice none 0 0]] w (RetBytes (n) w) := by
  have nb := fun w' => bits_word n hn w'
  have hbits := isBits_word hn
  have hB : Lib.bitLen n.toNat ≤ 64 := bitLen_le hn.2
  have hB0 : n = 0 → Lib.bitLen n.toNat = 0 := by rintro rfl; exact Lib.bitLenAux_zero 64
  obtain ⟨K,hK⟩ : ∃ K,Lib.bitLen n.toNat = K := ⟨_,rfl⟩
  rw [hK] at nb hbits hB hB0
  obtain ⟨m,hM⟩ : ∃ m,(K + 7) / 8 = m := ⟨_,rfl⟩
  have hT : m ≤ 8 * trimLen [n] 1 := by
    by_cases h : n = 0
    · have := hB0 h; omega
    · rw [trimLen_stop (l := [n]) (n := 0) (by simpa using h)]; omega
  have hT1 := trimLen_le [n] 1
  have hv : val ([n].take 1) = n := by simp [val]
  have hb1 : ∀ k,k < m → byteAt n k = [n].getD (k / 8) 0 / 256 ^ (k % 8) % 256 := by
    intro k hk
    have := byteAt_val (l := [n]) (Words.cons hn Words.nil) (len := 1) (i := k) (by simp) (by omega)
    rwa [hv] at this
  have hm0 : m ≤ 8 := by omega
  have hK1 : K ≤ 64 := hB
  have hi : (((K : Int) + 7) / 8) = (m : Int) := by omega
  have hmk := make8 m m rfl (by omega)
  have Hb := Lib.hid (And.intro hbits (And.intro hM hb1))
  have Nb := Lib.hid nb
  have Hi := Lib.hid hi
  clear hbits hM hb1 nb hB hB0 hK hi hv
  generalize htl : trimLen [n] 1 = wl at hT hT1
  have Htl := Lib.hid htl
  clear htl
  go_enter Tryz.func64,Tryz.ntmps64
  go_wp2_with fail
  refine (words_word n hn (w.heap.size + 1) _ 0 _ (Arr.new _ 122 .u64 [0] _ (by simp))).mono ?_
  rw [Htl.out]
  rintro e w1 ⟨rfl,aw,hg1⟩
  have hB1 : Below w.heap.size w w1 := Below.ofGrown (by go_grown) hg1 (by simp; omega) (by omega)
  have vb : Var w1 w.heap.size (.int .u64 n) (.slice none 0 0) := ((Var.new w _ (.int .u64 n) none 0 0 rfl).alloc _).grown hg1 (by simp)
  have c0 := vb.c0
  have c1 := vb.c1
  clear hg1
  go_wp2_with fail
  refine (Nb.out _).mono ?_
  rintro e w2 ⟨rfl,hb2⟩
  have aw2 := aw.below hb2 aw.lt
  have hB2 := hB1.trans (hb2.mono hB1.size)
  clear hb2 c0 c1
  go_wp2_with (rw [Hi.out])
  go_loopw [16] (fun i wr => ∃ (k : Nat) (lk : List Int),k ≤ m ∧ i = .int .i64 k ∧ BytesAt (n) m k lk ∧ Arr wr w2.heap.size 5 .u8 lk ∧ Below w2.heap.size w2 wr) (fun i _ => m - (intOf i).toNat)
  case atStart => exact ⟨0,_,Nat.zero_le _,rfl,⟨by simp,fun j hj h => by omega⟩,Arr.zeros _ _ _ _ _ rfl,by go_grown⟩
  case round =>
    obtain ⟨k,lk,hk,rfl,hat,hak,hB⟩ := hrel
    by_cases hlt : k < m
    · obtain ⟨j,hj⟩ : ∃ j : Nat,m - 1 - k = j := ⟨_,rfl⟩
      have hjm : j < m := by omega
      have hji : (m : Int) - 1 - k = j := by omega
      have hlen := hat.1
      have hco := hak.cell j (by omega)
      have hfo := hak.free j
      have hq : k / 8 < wl := by omega
      have hq1 : k / 8 < 1 := by omega
      have hcx := (aw2.below hB aw2.lt).cell (k / 8) (by simp; omega)
      have wx := (Words.cons hn Words.nil : Words [n]).getD (k / 8)
      obtain ⟨x,hx⟩ : ∃ x,([n]).getD (k / 8) 0 = x := ⟨_,rfl⟩
      rw [hx] at hcx wx
      have Hx := Lib.hid hx
      have Hj := Lib.hid hj
      have Hlen := Lib.hid hlen
      have Wx := Lib.hid wx
      generalize lk.getD j 0 = y at hco
      clear hx hj hlen wx
      go_wp2_with fail
      have hb := hat.step hlt (x := x / 2 ^ (8 * (k % 8)) % 256) (by rw [Hb.out.2.2 k hlt,Hx.out,two_256])
      rw [Hj.out,Nat.mul_comm 8] at hb
      exact ⟨⟨k + 1,_,by omega,by go_num,hb,hak.set _ _,hB.setCell (p := ⟨w2.heap.size,j,none⟩) (Nat.le_refl _) _⟩,by simp [intOf]; omega⟩
    · obtain rfl : k = m := by omega
      go_wp2_with fail
      go_ret
      have he := eq_be hat.1 (fun j hj => hat.2 j hj (by omega))
      rw [he] at hak
      exact ⟨_,K,k,rfl,Hb.out.1,Hb.out.2.1.symm,hak,hB2.size,hB2.trans (hB.mono hB2.size)⟩

set_option maxRecDepth 100000 in
set_option maxHeartbeats 1000000 in
theorem bytes_many (b t len cap : Nat) (l : List Int) (w : World) (ha : Arr w b t .u64 l) (hp : 1 ≤ len) (hl : len + 1 ≤ l.length) (hm : len + 1 ≤ 140737488355328) (hml : len ≤ 4294967296) (hw : Words l) (hz : l.getD len 0 ≠ 0) :
    Calls Tryz.prog 64 #[.agg #[.int .u64 0,.slice (some ⟨b,0,none⟩) (len + 1) cap]] w (RetBytes (val (l.take (len + 1))) w) := by
  have hwl := hw.getD len
  obtain ⟨K,hK⟩ : ∃ K,len * 64 + Lib.bitLen (l.getD len 0).toNat = K := ⟨_,rfl⟩
  have nb := fun w' (h : Arr w' b t .u64 l) => bits_many b t (len + 1) cap l w' h (by omega) hl hm hw
  rw [Nat.add_sub_cancel,hK] at nb
  have hbits : IsBits (val (l.take (len + 1))) K := by
    have hs := seg_bd hw 0 len (by omega)
    rw [← seg_all,seg_succ (by omega),Nat.zero_add,← hK,Nat.mul_comm len 64]
    exact isBits_top (pw_two len) hs.1 hs.2 hz (isBits_word hwl) hwl.1
  have hB : Lib.bitLen (l.getD len 0).toNat ≤ 64 := bitLen_le hwl.2
  have hK1 : K ≤ 64 * len + 64 := by omega
  obtain ⟨m,hM⟩ : ∃ m,(K + 7) / 8 = m := ⟨_,rfl⟩
  have hm1 : m ≤ 8 * len + 8 := by omega
  have hi : (((K : Int) + 7) / 8) = (m : Int) := by omega
  have hmk := make8 m m rfl (by omega)
  have Hb := Lib.hid (And.intro hbits (And.intro hM hz))
  have Nb := Lib.hid nb
  have Hi := Lib.hid hi
  clear hbits hM hz nb hB hK hwl hi
  go_enter Tryz.func64,Tryz.ntmps64
  go_wp2_with fail
  refine (words_many b (len + 1) cap _ _).mono ?_
  rintro e w1 ⟨rfl,hb1⟩
  have hB1 : Below w.heap.size w w1 := Below.trans (by go_grown) (hb1.mono (by simp; omega))
  have vb : Var w1 w.heap.size (.int .u64 0) (.slice (some ⟨b,0,none⟩) (len + 1) cap) := ((Var.new w _ (.int .u64 0) _ _ _ rfl).alloc _).below hb1 (by simp; omega)
  have c0 := vb.c0
  have c1 := vb.c1
  have aw : Arr w1 b t .u64 l := ha.below hB1 ha.lt
  clear hb1
  go_wp2_with fail
  refine (Nb.out _ aw).mono ?_
  rintro e w2 ⟨rfl,hb2⟩
  have aw2 := aw.below hb2 aw.lt
  have hB2 := hB1.trans (hb2.mono hB1.size)
  clear hb2 c0 c1
  go_wp2_with (rw [Hi.out])
  go_loopw [16] (fun i wr => ∃ (k : Nat) (lk : List Int),k ≤ m ∧ i = .int .i64 k ∧ BytesAt (val (l.take (len + 1))) m k lk ∧ Arr wr w2.heap.size 5 .u8 lk ∧ Below w2.heap.size w2 wr) (fun i _ => m - (intOf i).toNat)
  case atStart => exact ⟨0,_,Nat.zero_le _,rfl,⟨by simp,fun j hj h => by omega⟩,Arr.zeros _ _ _ _ _ rfl,by go_grown⟩
  case round =>
    obtain ⟨k,lk,hk,rfl,hat,hak,hB⟩ := hrel
    by_cases hlt : k < m
    · obtain ⟨j,hj⟩ : ∃ j : Nat,m - 1 - k = j := ⟨_,rfl⟩
      have hjm : j < m := by omega
      have hji : (m : Int) - 1 - k = j := by omega
      have hlen := hat.1
      have hco := hak.cell j (by omega)
      have hfo := hak.free j
      have hq : k / 8 < len + 1 := by omega
      have hcx := (aw2.below hB aw2.lt).cell (k / 8) (by omega)
      have wx := hw.getD (k / 8)
      obtain ⟨x,hx⟩ : ∃ x,(l).getD (k / 8) 0 = x := ⟨_,rfl⟩
      rw [hx] at hcx wx
      have Hx := Lib.hid hx
      have Hj := Lib.hid hj
      have Hlen := Lib.hid hlen
      have Wx := Lib.hid wx
      generalize lk.getD j 0 = y at hco
      clear hx hj hlen wx
      go_wp2_with fail
      have hb := hat.step hlt (x := x / 2 ^ (8 * (k % 8)) % 256) (by rw [byteAt_val hw hl hq,Hx.out,two_256])
      rw [Hj.out,Nat.mul_comm 8] at hb
      exact ⟨⟨k + 1,_,by omega,by go_num,hb,hak.set _ _,hB.setCell (p := ⟨w2.heap.size,j,none⟩) (Nat.le_refl _) _⟩,by simp [intOf]; omega⟩
    · obtain rfl : k = m := by omega
      go_wp2_with fail
      go_ret
      have he := eq_be hat.1 (fun j hj => hat.2 j hj (by omega))
      rw [he] at hak
      exact ⟨_,K,k,rfl,Hb.out.1,Hb.out.2.1.symm,hak,hB2.size,hB2.trans (hB.mono hB2.size)⟩

theorem bytes_any (K : Nat) (hK : K ≤ 4294967296) (v : Value) (n : Int) (w : World) (h : IsNat w v n) (hn : n < pw K) : Calls Tryz.prog 64 #[v] w (RetBytes n w) := by
  rcases h with ⟨wn,rfl⟩ | ⟨b,t,len,cap,l,rfl,ha,hp,hc,hl,hm,hw,hz,rfl⟩
  · exact bytes_word n wn w
  · have hle := len_le hw (by omega) (by omega) hz hn
    obtain ⟨k,rfl⟩ : ∃ k,len = k + 1 := ⟨len - 1,by omega⟩
    exact bytes_many b t k cap l w ha (by omega) (by omega) hm (by omega) hw hz
end Go.Proofs.YtogildikglomkaaGreatDoor
