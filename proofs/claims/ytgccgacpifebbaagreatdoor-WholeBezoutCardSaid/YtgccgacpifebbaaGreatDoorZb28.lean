/- FromAny App -/
import Derived.Test.YtgccgacpifebbaaGreatDoorZb10
import Derived.Deep.LoopGhost
import Derived.Test.YtgccgacpifebbaaGreatDoorZb02
import Derived.Deep.AppendSrc
import Derived.Lib.AppendZeros
import Derived.Laws.IdiomCopy
namespace Go.Proofs.YtgccgacpifebbaaGreatDoor
open Go.RowKit
set_option linter.unusedVariables false
/-- What trimLeftByte answers of a row: it is cut at its first byte that is not 0. -/
def RetTrim (b len cap : Nat) (l : List Int) (w : World) (e : Ending) (w' : World) : Prop :=
  w = w' ∧ ∃ k,k ≤ len ∧ (∀ j,j < k → l.getD j 0 = 0) ∧ ((k = len ∧ e = .returned (.slice none 0 0)) ∨ (k < len ∧ l.getD k 0 ≠ 0 ∧ e = .returned (.slice (some ⟨b,k,none⟩) (len - k) (cap - k))))
set_option maxRecDepth 100000 in
theorem trimLeftByte_any (b t len cap : Nat) (l : List Int) (w : World) (ha : Arr w b t .u8 l) (hl : len ≤ l.length) (hc : len ≤ cap) (hm : cap ≤ 9223372036854775807) :
    Calls Tryz.prog 120 #[.slice (some ⟨b,0,none⟩) len cap,.int .u8 0] w (RetTrim b len cap l w) := by
  go_enter Tryz.func120,Tryz.ntmps120
  go_wp2_with fail
  go_loopg [0] len (fun g s wr => ∃ (k : Nat) (p : Addr),g = len - k ∧ k ≤ len ∧ s = .slice (some p) (len - k) (cap - k) ∧ (k < len → p = ⟨b,k,none⟩) ∧ (∀ j,j < k → l.getD j 0 = 0) ∧ w = wr)
  case atStart => exact ⟨0,_,rfl,Nat.zero_le _,rfl,fun _ => rfl,fun j hj => by omega,rfl⟩
  case round =>
    obtain ⟨k,p,hg,hk,rfl,hp,hz,rfl⟩ := hrel
    have Hg := Lib.hid hg
    have Hz := Lib.hid hz
    clear hg hz
    by_cases hlt : k < len
    · obtain rfl := hp hlt
      have hcell := ha.cell k (by omega)
      obtain ⟨x,hx⟩ : ∃ x,l.getD k 0 = x := ⟨_,rfl⟩
      rw [hx] at hcell
      obtain ⟨m,hm1⟩ : ∃ m,len - k = m + 1 := ⟨len - k - 1,by omega⟩
      obtain ⟨c,hc1⟩ : ∃ c,cap - k = c := ⟨_,rfl⟩
      rw [hm1,hc1]
      by_cases h0 : x = 0
      · subst h0
        have Hx := Lib.hid hx
        have Hm1 := Lib.hid hm1
        have Hc1 := Lib.hid hc1
        clear hx hm1 hc1
        go_wp2_with fail
        all_goals
          go_roundg (len - (k + 1))
          case measure => have := Hg.out; omega
          case rel => exact ⟨k + 1,_,rfl,by omega,by
            have := Hm1.out
            have := Hc1.out
            congr 1 <;> omega,fun h => by
            have := Hm1.out
            have := Hc1.out
            first
              | rfl
              | omega,fun j hj => by
            by_cases e : j = k
            · subst e
              exact Hx.out
            · exact Hz.out j (by omega),rfl⟩
      · have hxb : (x == 0) = false := by simpa using h0
        have Hx : Hid (l.getD k 0 ≠ 0) := Lib.hid (by rw [hx]; exact h0)
        have Hm1 := Lib.hid hm1
        have Hc1 := Lib.hid hc1
        clear hx hm1 hc1
        go_wp2_with fail
        go_ret
        exact ⟨rfl,k,hk,Hz.out,.inr ⟨hlt,Hx.out,by rw [Hm1.out,Hc1.out]; rfl⟩⟩
    · obtain rfl : k = len := by omega
      rw [Nat.sub_self]
      go_wp2_with fail
      go_ret
      exact ⟨rfl,k,hk,Hz.out,.inl ⟨rfl,rfl⟩⟩
set_option maxRecDepth 100000 in
theorem trimLeft_any (b t len cap : Nat) (l : List Int) (w : World) (ha : Arr w b t .u8 l) (hl : len + 1 ≤ l.length) (hc : len + 1 ≤ cap) (hm : cap ≤ 9223372036854775807) :
    Calls Tryz.prog 94 #[.slice (some ⟨b,0,none⟩) (len + 1) cap,.string ⟨#[0]⟩] w (RetTrim b (len + 1) cap l w) := by
  have h0 : ((len : Int) + 1 == 0) = false := by simp; omega
  have q := trimLeftByte_any b t (len + 1) cap l w ha hl hc hm
  go_enter Tryz.func94,Tryz.ntmps94
  go_wp2_with fail
  refine q.mono ?_
  rintro e w' ⟨rfl,k,hk,hz,h⟩
  rcases h with ⟨rfl,rfl⟩ | ⟨hlt,hnz,rfl⟩
  · go_wp2_with fail
    go_ret
    exact ⟨rfl,_,hk,hz,.inl ⟨rfl,rfl⟩⟩
  · go_wp2_with fail
    go_ret
    exact ⟨rfl,_,hk,hz,.inr ⟨hlt,hnz,rfl⟩⟩
set_option maxRecDepth 100000 in
set_option maxHeartbeats 1000000 in
theorem from_off (p0 : Option Addr) (l0 c0' b t cap off len : Nat) (l : List Int) (n : Int) (w : World) (ha : Arr w b t .u8 l) (hle : off + (len + 1) ≤ l.length) (hbe : ∀ j,j < len + 1 → l.getD (off + j) 0 = byteAt n (len - j)) (hm : len ≤ 400) (hn : 0 ≤ n) (hlt : n < 256 ^ (len + 1))
    (trim : ∀ w',Below w.heap.size w w' → Calls Tryz.prog 94 #[.slice p0 l0 c0',.string ⟨#[0]⟩] w' fun e w'' => e = .returned (.slice (some ⟨b,off,none⟩) (len + 1) cap) ∧ w' = w'') :
    Calls Tryz.prog 62 #[.slice p0 l0 c0'] w (RetNat n w) := by
  obtain ⟨L,hL⟩ : ∃ L,(len + 1 + 7) / 8 = L := ⟨_,rfl⟩
  have hi : (((len : Int) + 1 + 8 - 1) / 8) = (L : Int) := by omega
  have hmk := make64 L L rfl (by omega)
  have k1 := ha.lt
  have h00 := fromAt_zero (L := L) hn hlt
  have H00 := Lib.hid h00
  have Hn := Lib.hid hn
  have HL := Lib.hid hL
  have Hle := Lib.hid hle
  have Hbe := Lib.hid hbe
  clear h00 hn hlt hL hle hbe
  go_enter Tryz.func62,Tryz.ntmps62
  go_wp2_with fail
  refine (trim _ (by go_grown)).mono ?_
  rintro e w' ⟨rfl,rfl⟩
  go_wp2_with fail
  go_loopw [17] (fun i wr => ∃ (k : Nat) (lk : List Int),k ≤ len + 1 ∧ i = .int .i64 k ∧ FromAt n (len + 1) k L lk ∧ Arr wr (w.heap.size + 1) 23 .u64 lk ∧ Below (w.heap.size + 1) (w.alloc (.cells #[.int .u64 0,.slice none 0 0] 26)) wr) (fun i _ => len + 1 - (intOf i).toNat)
  case atStart => exact ⟨0,_,Nat.zero_le _,rfl,H00.out,Arr.zeros _ _ _ L _ (by simp),(Below.refl _ _).alloc (by simp) _⟩
  case round =>
    obtain ⟨k,lk,hk,rfl,hat,hak,hB⟩ := hrel
    by_cases hlt : k < len + 1
    · obtain ⟨p,hp⟩ : ∃ p : Nat,len - k = p := ⟨_,rfl⟩
      have hpi : (len : Int) - k = p := by omega
      have hst := hat.step Hn.out hlt HL.out
      have hlen := hat.1
      have hwk := hat.2.1.getD (p / 8)
      have hr := Nat.mod_lt p (show 8 > 0 by decide)
      have hb := byteAt_bd n p
      have hq : p / 8 < L := by have := HL.out; omega
      have hcx := ((ha.alloc _).below hB (by omega)).cell (off + k) (by have := Hle.out; omega)
      rw [Hbe.out k hlt,hp] at hcx
      rw [show len + 1 - 1 - k = p by omega] at hst
      have hqi : (p : Int) / 8 = ((p / 8 : Nat) : Int) := by omega
      have hri : (p : Int) % 8 = ((p % 8 : Nat) : Int) := by omega
      generalize p / 8 = q at hst hwk hq hqi
      generalize p % 8 = r at hst hr hri
      have hco := hak.cell q (by omega)
      have hfo := hak.free q
      obtain ⟨hmod,hst⟩ := hst
      obtain ⟨x,hx⟩ : ∃ x,lk.getD q 0 = x := ⟨_,rfl⟩
      obtain ⟨c,hc⟩ : ∃ c,byteAt n p = c := ⟨_,rfl⟩
      rw [hx] at hwk hmod hst hco
      rw [hc] at hb hst hcx
      have hor := or_byte hr hwk hmod hb.1 hb.2
      have hq0 : (0 : Int) ≤ (q : Int) := by omega
      have hqL : (q : Int) < (L : Int) := by omega
      have hr0 : (0 : Int) ≤ (r : Int) * 8 := by omega
      have hr8 : (r : Int) * 8 < 64 := by omega
      have St := Lib.hid hst
      have Hor := Lib.hid hor
      have Hp := Lib.hid hp
      have Hlen := Lib.hid hlen
      have Hwk := Lib.hid hwk
      have Hmod := Lib.hid hmod
      clear hst hor hp hlen hx hc hat hwk hmod
      go_wp2_with fail
      go_region
      rw [Hor.out]
      go_wp2
      exact ⟨⟨k + 1,_,by omega,by go_num,St.out,hak.set _ _,(hB.setCell (p := ⟨w.heap.size + 1,q,none⟩) (Nat.le_refl _) _).drew⟩,by simp [intOf]; omega⟩
    · obtain rfl : k = len + 1 := by omega
      have hv := hat.done
      have hlen := hat.1
      have hwk := hat.2.1
      have vr := (Var.new w w.heap.size (.int .u64 0) none 0 0 rfl).below hB (by omega)
      have zr := hB.size
      rw [World.size_alloc] at zr
      have hBw : Below w.heap.size w wr := Below.trans (by go_grown) (hB.mono (by omega))
      clear hat
      go_wp2_with fail
      refine (made_any (w.heap.size + 1) 23 L L lk wr hak (Nat.le_refl _) (by omega) (by have := HL.out; omega) hwk).mono ?_
      rintro e w1 ⟨v,rfl,hvn,hb1⟩
      obtain ⟨xa,xp,xl,xc,rfl⟩ := hvn.shape
      rw [List.take_of_length_le (by omega),hv] at hvn
      replace vr := vr.below hb1 (by omega)
      have c0 := vr.c0
      have c1 := vr.c1
      have f0 := vr.free 0
      have f1 := vr.free 1
      go_wp2
      exact bodyPost_var Tryz.results62 rfl rfl (vr.set _ _ _ _) (hvn.two vr _ _) (below_two (hBw.trans (hb1.mono (by omega))) (Nat.le_refl _) _ _)
set_option maxRecDepth 100000 in
set_option maxHeartbeats 1000000 in
theorem from_nil (p0 : Option Addr) (l0 c0' : Nat) (w : World)
    (trim : ∀ w',Below w.heap.size w w' → Calls Tryz.prog 94 #[.slice p0 l0 c0',.string ⟨#[0]⟩] w' fun e w'' => e = .returned (.slice none 0 0) ∧ w' = w'') :
    Calls Tryz.prog 62 #[.slice p0 l0 c0'] w (RetNat 0 w) := by
  have hmk := make64 0 0 rfl (by omega)
  go_enter Tryz.func62,Tryz.ntmps62
  go_wp2_with fail
  refine (trim _ (by go_grown)).mono ?_
  rintro e w' ⟨rfl,rfl⟩
  go_wp2_with fail
  go_loopw [17] (fun i wr => i = .int .i64 0 ∧ Arr wr (w.heap.size + 1) 23 .u64 [] ∧ Below (w.heap.size + 1) (w.alloc (.cells #[.int .u64 0,.slice none 0 0] 26)) wr) (fun _ _ => 0)
  case atStart => exact ⟨rfl,Arr.zeros _ _ _ 0 _ (by simp),(Below.refl _ _).alloc (by simp) _⟩
  case round =>
    obtain ⟨rfl,hak,hB⟩ := hrel
    have vr := (Var.new w w.heap.size (.int .u64 0) none 0 0 rfl).below hB (by omega)
    have zr := hB.size
    rw [World.size_alloc] at zr
    have hBw : Below w.heap.size w wr := Below.trans (by go_grown) (hB.mono (by omega))
    go_wp2_with fail
    refine (made_any (w.heap.size + 1) 23 0 0 [] wr hak (Nat.le_refl _) (by simp) (by omega) Words.nil).mono ?_
    rintro e w1 ⟨v,rfl,hvn,hb1⟩
    obtain ⟨xa,xp,xl,xc,rfl⟩ := hvn.shape
    replace vr := vr.below hb1 (by omega)
    have c0 := vr.c0
    have c1 := vr.c1
    have f0 := vr.free 0
    have f1 := vr.free 1
    go_wp2
    exact bodyPost_var Tryz.results62 rfl rfl (vr.set _ _ _ _) (hvn.two vr _ _) (below_two (hBw.trans (hb1.mono (by omega))) (Nat.le_refl _) _ _)
theorem first_byte (l : List Int) : ∀ len : Nat,(∀ j,j < len → l.getD j 0 = 0) ∨ ∃ k,k < len ∧ l.getD k 0 ≠ 0 ∧ ∀ j,j < k → l.getD j 0 = 0
  | 0 => .inl fun j hj => by omega
  | len + 1 => by
    rcases first_byte l len with h | ⟨k,h1,h2,h3⟩
    · by_cases h0 : l.getD len 0 = 0
      · refine .inl fun j hj => ?_
        by_cases e : j = len
        · subst e; exact h0
        · exact h j (by omega)
      · exact .inr ⟨len,by omega,h0,h⟩
    · exact .inr ⟨k,by omega,h2,h3⟩
theorem less_bytes {n : Int} {m : Nat} (hn : 0 ≤ n) : ∀ k : Nat,k ≤ m → n < 256 ^ m → (∀ j,j < k → byteAt n (m - 1 - j) = 0) → n < 256 ^ (m - k)
  | 0,_,h,_ => h
  | k + 1,hk,h,hz => by
    have h1 := less_bytes hn k (by omega) h (fun j hj => hz j (by omega))
    have h2 := hz k (by omega)
    rw [show m - k = (m - (k + 1)) + 1 by omega] at h1
    rw [show m - 1 - k = m - (k + 1) by omega] at h2
    generalize m - (k + 1) = q at h1 h2
    unfold byteAt at h2
    have hp : (0 : Int) < 256 ^ q := Int.pow_pos (by decide)
    have b1 : 0 ≤ n / 256 ^ q := Int.ediv_nonneg hn (Int.le_of_lt hp)
    have b2 : n / 256 ^ q < 256 := by
      rw [Int.ediv_lt_iff_lt_mul hp]
      rw [Int.pow_succ] at h1
      omega
    have b3 : n / 256 ^ q < 1 := by omega
    rw [Int.ediv_lt_iff_lt_mul hp] at b3
    omega
/-- FromBytes of any bytes: the number whose bytes they are,the highest first,noughts ahead and all. -/
theorem from_any (b t len cap : Nat) (l : List Int) (n : Int) (w : World) (ha : Arr w b t .u8 l) (hl : len + 1 ≤ l.length) (hc : len + 1 ≤ cap) (hm : cap ≤ 9223372036854775807) (h400 : len ≤ 400) (hn : 0 ≤ n) (hlt : n < 256 ^ (len + 1)) (hbe : ∀ j,j < len + 1 → l.getD j 0 = byteAt n (len - j)) :
    Calls Tryz.prog 62 #[.slice (some ⟨b,0,none⟩) (len + 1) cap] w (RetNat n w) := by
  have tr : ∀ w',Below w.heap.size w w' → Calls Tryz.prog 94 #[.slice (some ⟨b,0,none⟩) (len + 1) cap,.string ⟨#[0]⟩] w' (RetTrim b (len + 1) cap l w') := fun w' hb => trimLeft_any b t len cap l w' (ha.below hb ha.lt) hl hc hm
  rcases first_byte l (len + 1) with h | ⟨k,h1,h2,h3⟩
  · have h0 := less_bytes (m := len + 1) hn (len + 1) (Nat.le_refl _) hlt (fun j hj => by rw [Nat.add_sub_cancel,← hbe j hj]; exact h j hj)
    rw [Nat.sub_self,Int.pow_zero] at h0
    obtain rfl : n = 0 := by omega
    refine from_nil _ _ _ w fun w' hb => (tr w' hb).mono ?_
    rintro e w'' ⟨rfl,k,hk,hz,⟨rfl,rfl⟩ | ⟨hlt,hnz,rfl⟩⟩
    · exact ⟨rfl,rfl⟩
    · exact absurd (h k hlt) hnz
  · have h0 := less_bytes (m := len + 1) hn k (by omega) hlt (fun j hj => by rw [Nat.add_sub_cancel,← hbe j (by omega)]; exact h3 j hj)
    refine from_off _ _ _ b t (cap - k) k (len - k) l n w ha (by omega) (fun j hj => by rw [hbe (k + j) (by omega),Nat.sub_sub]) (by omega) hn (by rw [show len - k + 1 = len + 1 - k by omega]; exact h0) fun w' hb => (tr w' hb).mono ?_
    rintro e w'' ⟨rfl,k',hk,hz,⟨rfl,rfl⟩ | ⟨hlt,hnz,rfl⟩⟩
    · exact absurd (hz k h1) h2
    · obtain rfl : k' = k := by
        rcases Nat.lt_trichotomy k' k with c | c | c
        · exact absurd (h3 k' c) hnz
        · exact c
        · exact absurd (hz k c) h2
      exact ⟨by rw [show len + 1 - k' = len - k' + 1 by omega],rfl⟩
end Go.Proofs.YtgccgacpifebbaaGreatDoor
namespace Go.Proofs.YtgccgacpifebbaaGreatDoor
open Go.RowKit
set_option linter.unusedVariables false
/-- The slice v holds xs,in a block from B on (or it is nil,and xs is nothing). -/
def Own (w : World) (B : Nat) (k : IntKind) (e : TypeId) (v : Value) (xs : List Int) : Prop :=
  (v = .slice none 0 0 ∧ xs = []) ∨ ∃ b z,v = .slice (some ⟨b,0,none⟩) xs.length (xs.length + z) ∧ Arr w b e k (xs ++ List.replicate z 0) ∧ B ≤ b
section
variable {w w' : World} {B : Nat} {k : IntKind} {e : TypeId} {v : Value} {xs : List Int}
theorem Own.shape (h : Own w B k e v xs) : ∃ p c,v = .slice p xs.length c := by
  rcases h with ⟨rfl,rfl⟩ | ⟨b,z,rfl,_⟩
  · exact ⟨_,_,rfl⟩
  · exact ⟨_,_,rfl⟩
theorem Own.below (h : Own w B k e v xs) (hb : Below w.heap.size w w') : Own w' B k e v xs := by
  rcases h with h | ⟨b,z,hv,ha,r⟩
  · exact .inl h
  · exact .inr ⟨b,z,hv,ha.below hb ha.lt,r⟩
theorem Own.alloc (h : Own w B k e v xs) (o : Obj) : Own (w.alloc o) B k e v xs := by
  rcases h with h | ⟨b,z,hv,ha,r⟩
  · exact .inl h
  · exact .inr ⟨b,z,hv,ha.alloc o,r⟩
theorem Own.drew (h : Own w B k e v xs) : Own w.drew B k e v xs := h
end
theorem setCells_arr (b : Nat) (e : TypeId) (k : IntKind) : ∀ (ys : List Int) (o : Nat) (w : World) (l : List Int),Arr w b e k l → o + ys.length ≤ l.length →
    Arr (w.setCells b o (ys.map (Value.int k))) b e k (l.take o ++ (ys ++ l.drop (o + ys.length)))
  | [],o,w,l,h,ho => by simpa [World.setCells] using h
  | y :: ys,o,w,l,h,ho => by
    simp only [List.length_cons] at ho
    have h1 := setCells_arr b e k ys (o + 1) (w.setCell ⟨b,o,none⟩ (.int k y)) (l.set o y) (h.set o y) (by simp; omega)
    rw [take_snoc (l.set o y) o 0 (by simp; omega),List.take_set,List.set_eq_of_length_le (by rw [List.length_take]; omega),getD_set _ _ _ _ (by omega),if_pos rfl,List.drop_set_of_lt (by omega)] at h1
    simp only [List.length_cons]
    rw [show o + (ys.length + 1) = o + 1 + ys.length by omega]
    simpa [World.setCells] using h1
theorem setCells_below (b : Nat) (B : Nat) (hB : B ≤ b) : ∀ (vs : List Value) (o : Nat) (a w : World),Below B a w → Below B a (w.setCells b o vs)
  | [],_,_,_,h => h
  | v :: r,o,a,w,h => setCells_below b B hB r (o + 1) a _ (h.setCell (p := ⟨b,o,none⟩) hB v)
theorem zeroCells_int (k : IntKind) (n : Nat) : Builtin.zeroCells (Value.int k 0).cells n = ((List.replicate n (0 : Int)).map (Value.int k)).toArray := by
  rw [← Array.toList_inj]
  have h : (Value.int k 0).cells = #[Value.int k 0] := rfl
  rw [h]
  simp [Builtin.zeroCells,Nat.mod_one]
  exact List.map_const' .. |>.trans (by simp)
end Go.Proofs.YtgccgacpifebbaaGreatDoor
