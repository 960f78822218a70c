/- RefAdd Bytes Is RefNum -/
import Derived.Test.YtgccgacpifebbaaGreatDoorZb09
import Derived.LoopTactic
import Derived.Deep.RegionWith
import Derived.Deep.RegionHeld3
import Derived.Laws.BytesString
import Derived.Test.YtgccgacpifebbaaGreatDoorZb18
namespace Go.Proofs.YtgccgacpifebbaaGreatDoor
open Go.RowKit
set_option linter.unusedVariables false
/-- The slice s holds the limbs L,the lowest first. -/
def Limbed (w : World) (s : Value) (L : List Int) : Prop :=
  (s = .slice none 0 0 ∧ L = []) ∨ ∃ b t len cap l,s = .slice (some ⟨b,0,none⟩) len cap ∧ Arr w b t .u32 l ∧ len ≤ l.length ∧ len ≤ 4294967296 ∧ Limbs l ∧ L = l.take len
section
variable {w w' : World} {s : Value} {L : List Int}
theorem Limbed.limbs (h : Limbed w s L) : Limbs L := by
  rcases h with ⟨_,rfl⟩ | ⟨b,t,len,cap,l,_,_,_,_,hw,rfl⟩
  · exact Limbs.nil
  · exact hw.take _
theorem Limbed.short (h : Limbed w s L) : L.length ≤ 4294967296 := by
  rcases h with ⟨_,rfl⟩ | ⟨b,t,len,cap,l,_,_,h1,h2,hw,rfl⟩
  · simp
  · rw [List.length_take]; omega
theorem Limbed.shape (h : Limbed w s L) : ∃ p cap,s = .slice p L.length cap := by
  rcases h with ⟨rfl,rfl⟩ | ⟨b,t,len,cap,l,rfl,_,h1,h2,hw,rfl⟩
  · exact ⟨_,_,rfl⟩
  · rw [List.length_take,Nat.min_eq_left h1]; exact ⟨_,_,rfl⟩
theorem Limbed.below (h : Limbed w s L) (hb : Below w.heap.size w w') : Limbed w' s L := by
  rcases h with h | ⟨b,t,len,cap,l,hv,ha,r⟩
  · exact .inl h
  · exact .inr ⟨b,t,len,cap,l,hv,ha.below hb ha.lt,r⟩
end
theorem getD_take (l : List Int) (n i : Nat) : (l.take n).getD i 0 = if i < n then l.getD i 0 else 0 := by
  simp only [List.getD_eq_getElem?_getD,List.getElem?_take]
  split <;> rfl
theorem getD_out {l : List Int} {i : Nat} (h : l.length ≤ i) : l.getD i 0 = 0 := by
  rw [List.getD_eq_getElem?_getD,List.getElem?_eq_none h]; rfl
theorem lval_take_next (l : List Int) (k : Nat) : lval (l.take (k + 1)) = lval (l.take k) + lpw k * l.getD k 0 := by
  by_cases h : k < l.length
  · exact lval_take_succ h
  · rw [getD_out (by omega),List.take_of_length_le (by omega),List.take_of_length_le (by omega),Int.mul_zero,Int.add_zero]
/-- The slice s is the document's number n. -/
def IsNum (w : World) (s : Value) (n : Int) : Prop := ∃ L,Limbed w s L ∧ (L ≠ [] → L.getD (L.length - 1) 0 ≠ 0) ∧ lval L = n
theorem IsNum.below {w w' : World} {s : Value} {n : Int} (h : IsNum w s n) (hb : Below w.heap.size w w') : IsNum w' s n := by
  obtain ⟨L,h1,h2,h3⟩ := h
  exact ⟨L,h1.below hb,h2,h3⟩
theorem IsNum.nonneg {w : World} {s : Value} {n : Int} (h : IsNum w s n) : 0 ≤ n := by
  obtain ⟨L,h1,h2,rfl⟩ := h
  exact (lval_bd h1.limbs).1
theorem isNum_arr {w : World} {b t len cap : Nat} {l : List Int} (ha : Arr w b t .u32 l) (h1 : len ≤ l.length) (h2 : len ≤ 4294967296) (hw : Limbs l) (hz : len ≠ 0 → l.getD (len - 1) 0 ≠ 0) : IsNum w (.slice (some ⟨b,0,none⟩) len cap) (lval (l.take len)) := by
  refine ⟨l.take len,.inr ⟨b,t,len,cap,l,rfl,ha,h1,h2,hw,rfl⟩,fun h => ?_,rfl⟩
  have hl : (l.take len).length = len := by rw [List.length_take,Nat.min_eq_left h1]
  have h0 : len ≠ 0 := by
    rintro rfl
    simp at h
  rw [hl,getD_take,if_pos (by omega)]
  exact hz h0
/-- What has come of a sum behind k limbs,the carry c. -/
def SumAt (A B lk : List Int) (n k : Nat) (c : Int) : Prop := (c = 0 ∨ c = 1) ∧ lk.length = n ∧ Limbs lk ∧ lval (lk.take k) + c * lpw k = lval (A.take k) + lval (B.take k)
theorem lin_sum {P a b c hi lo s t r : Int} (he : lo + 4294967296 * hi = c + a + b) (hv : s + c * P = t + r) : s + P * lo + hi * (4294967296 * P) = t + P * a + (r + P * b) := by
  have h2 : P * lo + P * (4294967296 * hi) = P * c + P * a + P * b := by rw [← Int.mul_add,he,Int.mul_add,Int.mul_add]
  have h3 : hi * (4294967296 * P) = P * (4294967296 * hi) := by rw [← Int.mul_assoc,Int.mul_comm (hi * 4294967296) P,Int.mul_comm hi 4294967296]
  have h4 : c * P = P * c := Int.mul_comm _ _
  rw [h3]; omega
theorem take_set (l : List Int) (k : Nat) (x : Int) : (l.set k x).take k = l.take k := by
  rw [List.take_set,List.set_eq_of_length_le (by rw [List.length_take]; omega)]
theorem lval_set {l : List Int} {k : Nat} (h : k < l.length) (x : Int) : lval ((l.set k x).take (k + 1)) = lval (l.take k) + lpw k * x := by
  rw [lval_take_succ (by simpa using h),take_set,getD_set _ _ _ _ h,if_pos rfl]
theorem SumAt.step {A B lk : List Int} {n k : Nat} {c : Int} (h : SumAt A B lk n k c) (hA : Limbs A) (hB : Limbs B) (hk : k < n) :
    SumAt A B (lk.set k ((c + A.getD k 0 + B.getD k 0) % 4294967296)) n (k + 1) ((c + A.getD k 0 + B.getD k 0) / 4294967296) := by
  obtain ⟨hc,hl,hw,hv⟩ := h
  have ha := hA.getD k
  have hb := hB.getD k
  refine ⟨?_,by simpa using hl,hw.set _ ⟨by omega,by omega⟩,?_⟩
  · unfold Limb at ha hb; omega
  · rw [lval_set (by omega),lval_take_next A,lval_take_next B]
    exact lin_sum (by omega) hv
theorem SumAt.done {A B lk : List Int} {n : Nat} {c : Int} (h : SumAt A B lk (n + 1) (n + 1) c) (hA : Limbs A) (hB : Limbs B) (ha : A.length ≤ n) (hb : B.length ≤ n) : lval (lk.take (n + 1)) = lval A + lval B := by
  obtain ⟨hc,hl,hw,hv⟩ := h
  rw [List.take_of_length_le (l := A) (by omega),List.take_of_length_le (l := B) (by omega)] at hv
  have h1 := lval_bd hA
  have h2 := lval_bd hB
  have h3 := lpw_mono ha
  have h4 := lpw_mono hb
  have h5 := lval_bd (hw.take (n + 1))
  have h6 := lpw_pos n
  rcases hc with rfl | rfl
  · omega
  · simp only [lpw,Int.one_mul] at hv
    omega
/-- What has come of a difference behind k limbs,the borrow c. -/
def LessAt (A B lk : List Int) (n k : Nat) (c : Int) : Prop := (c = 0 ∨ c = 1) ∧ lk.length = n ∧ Limbs lk ∧ lval (lk.take k) + lval (B.take k) = lval (A.take k) + c * lpw k
theorem lin_less {P a b c hi lo s t r : Int} (he : lo + c + b = a + 4294967296 * hi) (hv : s + r = t + c * P) : s + P * lo + (r + P * b) = t + P * a + hi * (4294967296 * P) := by
  have h2 : P * lo + P * c + P * b = P * a + P * (4294967296 * hi) := by rw [← Int.mul_add,← Int.mul_add,he,Int.mul_add]
  have h3 : hi * (4294967296 * P) = P * (4294967296 * hi) := by rw [← Int.mul_assoc,Int.mul_comm (hi * 4294967296) P,Int.mul_comm hi 4294967296]
  have h4 : c * P = P * c := Int.mul_comm _ _
  rw [h3]; omega
theorem less_low {a b c : Int} (ha : Limb a) (hb : Limb b) (hc : c = 0 ∨ c = 1) : (a - b - c) % 18446744073709551616 % 4294967296 + c + b = a + 4294967296 * ((a - b - c) % 18446744073709551616 / 9223372036854775808) := by
  unfold Limb at ha hb; omega
theorem less_bit {a b c : Int} (ha : Limb a) (hb : Limb b) (hc : c = 0 ∨ c = 1) : (a - b - c) % 18446744073709551616 / 9223372036854775808 = 0 ∨ (a - b - c) % 18446744073709551616 / 9223372036854775808 = 1 := by
  unfold Limb at ha hb; omega
theorem LessAt.step {A B lk : List Int} {n k : Nat} {c : Int} (h : LessAt A B lk n k c) (hA : Limbs A) (hB : Limbs B) (hk : k < n) :
    LessAt A B (lk.set k ((A.getD k 0 - B.getD k 0 - c) % 18446744073709551616 % 4294967296)) n (k + 1) ((A.getD k 0 - B.getD k 0 - c) % 18446744073709551616 / 9223372036854775808) := by
  obtain ⟨hc,hl,hw,hv⟩ := h
  have ha := hA.getD k
  have hb := hB.getD k
  refine ⟨less_bit ha hb hc,by simpa using hl,hw.set _ ⟨by omega,by omega⟩,?_⟩
  rw [lval_set (by omega),lval_take_next A,lval_take_next B]
  exact lin_less (less_low ha hb hc) hv
theorem LessAt.done {A B lk : List Int} {n : Nat} {c : Int} (h : LessAt A B lk n n c) (ha : A.length = n) (hb : B.length ≤ n) (hle : lval B ≤ lval A) : lval (lk.take n) = lval A - lval B := by
  obtain ⟨hc,hl,hw,hv⟩ := h
  rw [List.take_of_length_le (l := A) (by omega),List.take_of_length_le (l := B) (by omega)] at hv
  have h5 := lval_bd (hw.take n)
  rw [List.length_take,Nat.min_eq_left (by omega)] at h5
  rcases hc with rfl | rfl
  · omega
  · omega
end Go.Proofs.YtgccgacpifebbaaGreatDoor
namespace Go.Proofs.YtgccgacpifebbaaGreatDoor
open Go.RowKit
set_option linter.unusedVariables false
theorem Limbed.row {w : World} {s : Value} {L : List Int} (h : Limbed w s L) (hne : L.length ≠ 0) : ∃ b t cap l,s = .slice (some ⟨b,0,none⟩) L.length cap ∧ Arr w b t .u32 l ∧ L.length ≤ l.length ∧ (∀ k,k < L.length → l.getD k 0 = L.getD k 0) ∧ b < w.heap.size := by
  rcases h with ⟨_,rfl⟩ | ⟨b,t,len,cap,l,rfl,ha,h1,h2,hw,rfl⟩
  · exact absurd rfl hne
  · have hl : (l.take len).length = len := by rw [List.length_take,Nat.min_eq_left h1]
    rw [hl]
    exact ⟨b,t,cap,l,rfl,ha,h1,fun k hk => by rw [getD_take,if_pos hk],ha.lt⟩
/-- A row that a call goes through,limb by limb. -/
theorem Limbed.cell {w : World} {b t : Nat} {l L : List Int} (ha : Arr w b t .u32 l) (h1 : L.length ≤ l.length) (he : ∀ k,k < L.length → l.getD k 0 = L.getD k 0) (k : Nat) (hk : k < L.length) : w.cell? ⟨b,k,none⟩ = some (.int .u32 (L.getD k 0)) := by
  rw [← he k hk]; exact ha.cell k (by omega)
/-- Behind i limbs of the one number: their product with the other one. -/
def TimesAt (A B lk : List Int) (i : Nat) : Prop := lk.length = A.length + B.length ∧ Limbs lk ∧ lval (lk.take (i + B.length)) = lval (A.take i) * lval B
/-- Within: behind k limbs of the other one,the carry c. -/
def TimesIn (lz lk B : List Int) (i k : Nat) (a c : Int) : Prop := lk.length = lz.length ∧ Limbs lk ∧ Limb c ∧ (∀ j,i + k ≤ j → lk.getD j 0 = lz.getD j 0) ∧ lval (lk.take (i + k)) + c * lpw (i + k) = lval (lz.take (i + k)) + lpw i * (a * lval (B.take k))
theorem lin_times {P Pi Pk s t a c c' r lo u x : Int} (hP : P = Pi * Pk) (he : lo + 4294967296 * c' = c + r + a * x) (hv : s + c * P = t + Pi * (a * u)) :
    s + P * lo + c' * (4294967296 * P) = t + P * r + Pi * (a * (u + Pk * x)) := by
  have h2 : P * lo + P * (4294967296 * c') = P * c + P * r + P * (a * x) := by rw [← Int.mul_add,he,Int.mul_add,Int.mul_add]
  have h3 : c' * (4294967296 * P) = P * (4294967296 * c') := by rw [← Int.mul_assoc,Int.mul_comm (c' * 4294967296) P,Int.mul_comm c' 4294967296]
  have h4 : c * P = P * c := Int.mul_comm _ _
  have h5 : Pi * (a * (u + Pk * x)) = Pi * (a * u) + P * (a * x) := by
    rw [Int.mul_add,Int.mul_add,hP,Int.mul_assoc,Int.mul_left_comm a Pk x]
  rw [h3,h5]; omega
theorem times_bd {a x : Int} (ha : Limb a) (hx : Limb x) : 0 ≤ a * x ∧ a * x ≤ 18446744065119617025 := by
  obtain ⟨a0,a1⟩ := ha
  obtain ⟨x0,x1⟩ := hx
  refine ⟨Int.mul_nonneg a0 x0,?_⟩
  have h1 : a * x ≤ 4294967295 * x := Int.mul_le_mul_of_nonneg_right (by omega) x0
  omega
theorem TimesIn.step {lz lk B : List Int} {i k : Nat} {a c : Int} (h : TimesIn lz lk B i k a c) (hi : i + k < lz.length) (hz : Limbs lz) (hB : Limbs B) (ha : Limb a) :
    TimesIn lz (lk.set (i + k) ((c + lz.getD (i + k) 0 + a * B.getD k 0) % 4294967296)) B i (k + 1) a ((c + lz.getD (i + k) 0 + a * B.getD k 0) / 4294967296) := by
  obtain ⟨hlen,hw,hc,hrest,hval⟩ := h
  have wr := hz.getD (i + k)
  have wx := hB.getD k
  have hb := times_bd ha wx
  refine ⟨by simp [hlen],hw.set _ ⟨by omega,by omega⟩,?_,?_,?_⟩
  · generalize a * B.getD k 0 = p at *
    unfold Limb at *
    omega
  · intro j hj
    rw [getD_set _ _ _ _ (by omega),if_neg (by omega)]
    exact hrest j (by omega)
  · rw [← Nat.add_assoc,lval_set (by omega),lval_take_next lz,lval_take_next B]
    exact lin_times (lpw_add i k) (by omega) hval
theorem TimesAt.step {lz lk A B : List Int} {i : Nat} {c : Int} (h : TimesAt A B lz i) (hi : i < A.length) (hin : TimesIn lz lk B i B.length (A.getD i 0) c) : TimesAt A B (lk.set (i + B.length) c) (i + 1) := by
  obtain ⟨hlen,hw,hval⟩ := h
  obtain ⟨glen,gw,gc,grest,gval⟩ := hin
  refine ⟨by simp [glen,hlen],gw.set _ gc,?_⟩
  rw [Nat.add_right_comm,lval_set (by omega),lval_take_next A,Int.add_mul,← hval]
  rw [List.take_length] at gval
  rw [Int.mul_comm (lpw (i + B.length)) c,gval,Int.mul_assoc]
end Go.Proofs.YtgccgacpifebbaaGreatDoor
namespace Go.Proofs.YtgccgacpifebbaaGreatDoor
open Go.RowKit
set_option linter.unusedVariables false
end Go.Proofs.YtgccgacpifebbaaGreatDoor
namespace Go.Proofs.YtgccgacpifebbaaGreatDoor
open Go.RowKit
set_option linter.unusedVariables false
set_option maxRecDepth 100000 in
set_option maxHeartbeats 1000000 in
theorem bytes_word (n : Int) (hn : Word n) (w : World) :
    Calls Tryz.prog 46 #[.agg #[.int .u64 n,.slice none 0 0]] w (RetBytes (n) w) := by
  have nb := fun w' => bits_word n hn w'
  have hbits := isBits_word hn
  have hB : Lib.bitLen n.toNat ≤ 64 := bitLen_le hn.2
  have hB0 : n = 0 → Lib.bitLen n.toNat = 0 := by rintro rfl; exact Lib.bitLenAux_zero 64
  obtain ⟨K,hK⟩ : ∃ K,Lib.bitLen n.toNat = K := ⟨_,rfl⟩
  rw [hK] at nb hbits hB hB0
  obtain ⟨m,hM⟩ : ∃ m,(K + 7) / 8 = m := ⟨_,rfl⟩
  have hT : m ≤ 8 * trimLen [n] 1 := by
    by_cases h : n = 0
    · have := hB0 h; omega
    · rw [trimLen_stop (l := [n]) (n := 0) (by simpa using h)]; omega
  have hT1 := trimLen_le [n] 1
  have hv : val ([n].take 1) = n := by simp [val]
  have hb1 : ∀ k,k < m → byteAt n k = [n].getD (k / 8) 0 / 256 ^ (k % 8) % 256 := by
    intro k hk
    have := byteAt_val (l := [n]) (Words.cons hn Words.nil) (len := 1) (i := k) (by simp) (by omega)
    rwa [hv] at this
  have hm0 : m ≤ 8 := by omega
  have hK1 : K ≤ 64 := hB
  have hi : (((K : Int) + 7) / 8) = (m : Int) := by omega
  have hmk := make8 m m rfl (by omega)
  have Hb := Lib.hid (And.intro hbits (And.intro hM hb1))
  have Nb := Lib.hid nb
  have Hi := Lib.hid hi
  clear hbits hM hb1 nb hB hB0 hK hi hv
  generalize htl : trimLen [n] 1 = wl at hT hT1
  have Htl := Lib.hid htl
  clear htl
  go_enter Tryz.func46,Tryz.ntmps46
  go_wp2_with fail
  refine (words_word n hn (w.heap.size + 1) _ 0 _ (Arr.new _ 121 .u64 [0] _ (by simp))).mono ?_
  rw [Htl.out]
  rintro e w1 ⟨rfl,aw,hg1⟩
  have hB1 : Below w.heap.size w w1 := Below.ofGrown (by go_grown) hg1 (by simp; omega) (by omega)
  have vb : Var w1 w.heap.size (.int .u64 n) (.slice none 0 0) := ((Var.new w _ (.int .u64 n) none 0 0 rfl).alloc _).grown hg1 (by simp)
  have c0 := vb.c0
  have c1 := vb.c1
  clear hg1
  go_wp2_with fail
  refine (Nb.out _).mono ?_
  rintro e w2 ⟨rfl,hb2⟩
  have aw2 := aw.below hb2 aw.lt
  have hB2 := hB1.trans (hb2.mono hB1.size)
  clear hb2 c0 c1
  go_wp2_with (rw [Hi.out])
  go_loopw [16] (fun i wr => ∃ (k : Nat) (lk : List Int),k ≤ m ∧ i = .int .i64 k ∧ BytesAt (n) m k lk ∧ Arr wr w2.heap.size 5 .u8 lk ∧ Below w2.heap.size w2 wr) (fun i _ => m - (intOf i).toNat)
  case atStart => exact ⟨0,_,Nat.zero_le _,rfl,⟨by simp,fun j hj h => by omega⟩,Arr.zeros _ _ _ _ _ rfl,by go_grown⟩
  case round =>
    obtain ⟨k,lk,hk,rfl,hat,hak,hB⟩ := hrel
    by_cases hlt : k < m
    · obtain ⟨j,hj⟩ : ∃ j : Nat,m - 1 - k = j := ⟨_,rfl⟩
      have hjm : j < m := by omega
      have hji : (m : Int) - 1 - k = j := by omega
      have hlen := hat.1
      have hco := hak.cell j (by omega)
      have hfo := hak.free j
      have hq : k / 8 < wl := by omega
      have hq1 : k / 8 < 1 := by omega
      have hcx := (aw2.below hB aw2.lt).cell (k / 8) (by simp; omega)
      have wx := (Words.cons hn Words.nil : Words [n]).getD (k / 8)
      obtain ⟨x,hx⟩ : ∃ x,([n]).getD (k / 8) 0 = x := ⟨_,rfl⟩
      rw [hx] at hcx wx
      have Hx := Lib.hid hx
      have Hj := Lib.hid hj
      have Hlen := Lib.hid hlen
      have Wx := Lib.hid wx
      generalize lk.getD j 0 = y at hco
      clear hx hj hlen wx
      go_wp2_with fail
      have hb := hat.step hlt (x := x / 2 ^ (8 * (k % 8)) % 256) (by rw [Hb.out.2.2 k hlt,Hx.out,two_256])
      rw [Hj.out,Nat.mul_comm 8] at hb
      exact ⟨⟨k + 1,_,by omega,by go_num,hb,hak.set _ _,hB.setCell (p := ⟨w2.heap.size,j,none⟩) (Nat.le_refl _) _⟩,by simp [intOf]; omega⟩
    · obtain rfl : k = m := by omega
      go_wp2_with fail
      go_ret
      have he := eq_be hat.1 (fun j hj => hat.2 j hj (by omega))
      rw [he] at hak
      exact ⟨_,K,k,rfl,Hb.out.1,Hb.out.2.1.symm,hak,hB2.size,hB2.trans (hB.mono hB2.size)⟩
set_option maxRecDepth 100000 in
set_option maxHeartbeats 1000000 in
theorem bytes_many (b t len cap : Nat) (l : List Int) (w : World) (ha : Arr w b t .u64 l) (hp : 1 ≤ len) (hl : len + 1 ≤ l.length) (hm : len + 1 ≤ 140737488355328) (hml : len ≤ 4294967296) (hw : Words l) (hz : l.getD len 0 ≠ 0) :
    Calls Tryz.prog 46 #[.agg #[.int .u64 0,.slice (some ⟨b,0,none⟩) (len + 1) cap]] w (RetBytes (val (l.take (len + 1))) w) := by
  have hwl := hw.getD len
  obtain ⟨K,hK⟩ : ∃ K,len * 64 + Lib.bitLen (l.getD len 0).toNat = K := ⟨_,rfl⟩
  have nb := fun w' (h : Arr w' b t .u64 l) => bits_many b t (len + 1) cap l w' h (by omega) hl hm hw
  rw [Nat.add_sub_cancel,hK] at nb
  have hbits : IsBits (val (l.take (len + 1))) K := by
    have hs := seg_bd hw 0 len (by omega)
    rw [← seg_all,seg_succ (by omega),Nat.zero_add,← hK,Nat.mul_comm len 64]
    exact isBits_top (pw_two len) hs.1 hs.2 hz (isBits_word hwl) hwl.1
  have hB : Lib.bitLen (l.getD len 0).toNat ≤ 64 := bitLen_le hwl.2
  have hK1 : K ≤ 64 * len + 64 := by omega
  obtain ⟨m,hM⟩ : ∃ m,(K + 7) / 8 = m := ⟨_,rfl⟩
  have hm1 : m ≤ 8 * len + 8 := by omega
  have hi : (((K : Int) + 7) / 8) = (m : Int) := by omega
  have hmk := make8 m m rfl (by omega)
  have Hb := Lib.hid (And.intro hbits (And.intro hM hz))
  have Nb := Lib.hid nb
  have Hi := Lib.hid hi
  clear hbits hM hz nb hB hK hwl hi
  go_enter Tryz.func46,Tryz.ntmps46
  go_wp2_with fail
  refine (words_many b (len + 1) cap _ _).mono ?_
  rintro e w1 ⟨rfl,hb1⟩
  have hB1 : Below w.heap.size w w1 := Below.trans (by go_grown) (hb1.mono (by simp; omega))
  have vb : Var w1 w.heap.size (.int .u64 0) (.slice (some ⟨b,0,none⟩) (len + 1) cap) := ((Var.new w _ (.int .u64 0) _ _ _ rfl).alloc _).below hb1 (by simp; omega)
  have c0 := vb.c0
  have c1 := vb.c1
  have aw : Arr w1 b t .u64 l := ha.below hB1 ha.lt
  clear hb1
  go_wp2_with fail
  refine (Nb.out _ aw).mono ?_
  rintro e w2 ⟨rfl,hb2⟩
  have aw2 := aw.below hb2 aw.lt
  have hB2 := hB1.trans (hb2.mono hB1.size)
  clear hb2 c0 c1
  go_wp2_with (rw [Hi.out])
  go_loopw [16] (fun i wr => ∃ (k : Nat) (lk : List Int),k ≤ m ∧ i = .int .i64 k ∧ BytesAt (val (l.take (len + 1))) m k lk ∧ Arr wr w2.heap.size 5 .u8 lk ∧ Below w2.heap.size w2 wr) (fun i _ => m - (intOf i).toNat)
  case atStart => exact ⟨0,_,Nat.zero_le _,rfl,⟨by simp,fun j hj h => by omega⟩,Arr.zeros _ _ _ _ _ rfl,by go_grown⟩
  case round =>
    obtain ⟨k,lk,hk,rfl,hat,hak,hB⟩ := hrel
    by_cases hlt : k < m
    · obtain ⟨j,hj⟩ : ∃ j : Nat,m - 1 - k = j := ⟨_,rfl⟩
      have hjm : j < m := by omega
      have hji : (m : Int) - 1 - k = j := by omega
      have hlen := hat.1
      have hco := hak.cell j (by omega)
      have hfo := hak.free j
      have hq : k / 8 < len + 1 := by omega
      have hcx := (aw2.below hB aw2.lt).cell (k / 8) (by omega)
      have wx := hw.getD (k / 8)
      obtain ⟨x,hx⟩ : ∃ x,(l).getD (k / 8) 0 = x := ⟨_,rfl⟩
      rw [hx] at hcx wx
      have Hx := Lib.hid hx
      have Hj := Lib.hid hj
      have Hlen := Lib.hid hlen
      have Wx := Lib.hid wx
      generalize lk.getD j 0 = y at hco
      clear hx hj hlen wx
      go_wp2_with fail
      have hb := hat.step hlt (x := x / 2 ^ (8 * (k % 8)) % 256) (by rw [byteAt_val hw hl hq,Hx.out,two_256])
      rw [Hj.out,Nat.mul_comm 8] at hb
      exact ⟨⟨k + 1,_,by omega,by go_num,hb,hak.set _ _,hB.setCell (p := ⟨w2.heap.size,j,none⟩) (Nat.le_refl _) _⟩,by simp [intOf]; omega⟩
    · obtain rfl : k = m := by omega
      go_wp2_with fail
      go_ret
      have he := eq_be hat.1 (fun j hj => hat.2 j hj (by omega))
      rw [he] at hak
      exact ⟨_,K,k,rfl,Hb.out.1,Hb.out.2.1.symm,hak,hB2.size,hB2.trans (hB.mono hB2.size)⟩
theorem bytes_any (K : Nat) (hK : K ≤ 4294967296) (v : Value) (n : Int) (w : World) (h : IsNat w v n) (hn : n < pw K) : Calls Tryz.prog 46 #[v] w (RetBytes n w) := by
  rcases h with ⟨wn,rfl⟩ | ⟨b,t,len,cap,l,rfl,ha,hp,hc,hl,hm,hw,hz,rfl⟩
  · exact bytes_word n wn w
  · have hle := len_le hw (by omega) (by omega) hz hn
    obtain ⟨k,rfl⟩ : ∃ k,len = k + 1 := ⟨len - 1,by omega⟩
    exact bytes_many b t k cap l w ha (by omega) (by omega) hm (by omega) hw hz
end Go.Proofs.YtgccgacpifebbaaGreatDoor
namespace Go.Proofs.YtgccgacpifebbaaGreatDoor
open Go.RowKit
set_option linter.unusedVariables false
end Go.Proofs.YtgccgacpifebbaaGreatDoor
namespace Go.Proofs.YtgccgacpifebbaaGreatDoor
open Go.RowKit
set_option linter.unusedVariables false
theorem natBytes_num (s : Value) (n : Int) (w : World) (h : IsNum w s n) : Calls Tryz.prog 63 #[s] w (RetBytes n w) := by
  obtain ⟨L,h1,h2,rfl⟩ := h
  rcases h1 with ⟨rfl,rfl⟩ | ⟨b,t,len,cap,l,rfl,ha,k1,k2,hw,rfl⟩
  · exact natBytes_zero none 0 w
  · refine natBytes_of _ b len cap t l w ha k1 k2 hw (fun h0 => ?_) rfl
    have hl : (l.take len).length = len := by rw [List.length_take,Nat.min_eq_left k1]
    have hne : l.take len ≠ [] := fun e => h0 (by rw [← hl,e]; rfl)
    have := h2 hne
    rw [hl,getD_take,if_pos (by omega)] at this
    exact this
theorem IsNum.shape {w : World} {s : Value} {n : Int} (h : IsNum w s n) : ∃ p l c,s = .slice p l c := by
  obtain ⟨L,h1,_⟩ := h
  obtain ⟨p,c,rfl⟩ := h1.shape
  exact ⟨p,_,c,rfl⟩
theorem sub_none (v1 v2 : Value) (n m : Int) (w : World) (h1 : IsNat w v1 n) (h2 : IsNat w v2 m) (hlt : n < m) :
    Calls Tryz.prog 54 #[v1,v2] w fun e w' => e = .returned (.tuple #[.agg #[.int .u64 0,.slice none 0 0],.bool false]) ∧ Below w.heap.size w w' := by
  obtain ⟨x1,p1,l1,c1,rfl⟩ := h1.shape
  obtain ⟨x2,p2,l2,c2,rfl⟩ := h2.shape
  have hcmp := fun w' (hb : Below w.heap.size w w') => cmp_any (.agg #[.int .u64 x1,.slice p1 l1 c1]) (.agg #[.int .u64 x2,.slice p2 l2 c2]) n m w' (h1.below hb) (h2.below hb)
  rw [cmpI_lt hlt] at hcmp
  go_enter Tryz.func54,Tryz.ntmps54
  go_wp2_with fail
  refine (hcmp _ (by go_grown)).mono ?_
  rintro e w2 ⟨rfl,hb2⟩
  obtain ⟨v0,v1,v2,hB2,hS⟩ := boxes3 hb2
  clear hcmp hb2
  have c20 := v2.c0
  have c21 := v2.c1
  have f20 := v2.free 0
  have f21 := v2.free 1
  go_wp2_with fail
  have v3 := v2.set (.int .u64 0) none 0 0
  refine bodyPost_ret (v := .tuple #[.agg #[.int .u64 0,.slice none 0 0],.bool false]) ?_ rfl ⟨rfl,below_two hB2 (by omega) _ _⟩
  simp [results,Tryz.results54,asAddr,run_loadVar_nat v3]
end Go.Proofs.YtgccgacpifebbaaGreatDoor
