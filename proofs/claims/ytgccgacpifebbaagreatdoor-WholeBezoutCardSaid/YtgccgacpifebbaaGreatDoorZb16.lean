/- SubTimes -/
import Derived.Test.YtgccgacpifebbaaGreatDoorZb15
namespace Go.Proofs.YtgccgacpifebbaaGreatDoor
open Go.RowKit
set_option linter.unusedVariables false
/-- What has become of row lu behind k words: d times X is taken away,c is still to be taken. -/
def TakeAt (w wr : World) (ub : Nat) (tu : TypeId) (lu : List Int) (uo k : Nat) (d X c : Int) : Prop :=
  Word c ∧ ∃ lk,Arr wr ub tu .u64 lk ∧ lk.length = lu.length ∧ Words lk ∧ (∀ j,j < uo ∨ uo + k ≤ j → lk.getD j 0 = lu.getD j 0) ∧ seg lk uo k + d * X = seg lu uo k + c * pw k ∧ w.grownBy wr (some ub)
theorem lin_take {P B s t X x d u le lo hi b c c' : Int} (h1 : lo + B * hi = x * d + c) (h2 : le + lo = u + B * b) (hc : c' = hi + b) (hv : s + d * X = t + c * P) : s + P * le + d * (X + P * x) = t + P * u + c' * (B * P) := by
  have e1 : P * le + P * lo = P * u + P * (B * b) := by rw [← Int.mul_add,h2,Int.mul_add]
  have e2 : P * lo + P * (B * hi) = P * (x * d) + P * c := by rw [← Int.mul_add,h1,Int.mul_add]
  have e3 : d * (X + P * x) = d * X + P * (x * d) := by rw [Int.mul_add,Int.mul_left_comm,Int.mul_comm d x]
  have e4 : c' * (B * P) = P * (B * hi) + P * (B * b) := by
    rw [hc,← Int.mul_add,← Int.mul_add,Int.mul_left_comm,Int.mul_comm (hi + b) P,Int.mul_left_comm]
  have e5 : c * P = P * c := Int.mul_comm _ _
  rw [e3,e4]; omega
theorem take_carry {u x d c : Int} (hu : Word u) (hx : Word x) (hd : Word d) (hc : Word c) : Word (mulHi x d c + subHi u (mulLo x d c) 0) := by
  have hb := mul_bd hx hd
  have he := mul_eq x d c
  have hl := mulLo_word x d c
  have hh := mulHi_word hx hd hc
  generalize mulHi x d c = H at *
  generalize mulLo x d c = O at *
  generalize x * d = p at *
  unfold subHi
  unfold Word at *
  split <;> omega
theorem TakeAt.step {w wr : World} {ub : Nat} {tu : TypeId} {lu : List Int} {uo k : Nat} {d X c : Int} (h : TakeAt w wr ub tu lu uo k d X c) (hk : uo + k < lu.length) (hz : Words lu) (hd : Word d) {x : Int} (hx : Word x) :
    TakeAt w (wr.setCell ⟨ub,uo + k,none⟩ (.int .u64 (subLo (lu.getD (uo + k) 0) (mulLo x d c) 0))) ub tu lu uo (k + 1) d (X + pw k * x) (mulHi x d c + subHi (lu.getD (uo + k) 0) (mulLo x d c) 0) := by
  obtain ⟨hc,lk,ha,hlen,hw,hrest,hval,hg⟩ := h
  refine ⟨take_carry (hz.getD _) hx hd hc,_,ha.set _ _,by simp [hlen],hw.set _ (subLo_word _ _ _),?_,?_,grownBy_trans hg (grownBy_set _ _ _ _)⟩
  · intro j hj
    rw [getD_set _ _ _ _ (by omega),if_neg (by omega)]
    exact hrest j (by omega)
  · rw [seg_succ (by simp; omega),seg_succ hk,getD_set _ _ _ _ (by omega),if_pos rfl,
      seg_congr (l := lk.set (uo + k) _) (l' := lk) (by simp; omega) (by omega) (fun j h1 h2 => by rw [getD_set _ _ _ _ (by omega),if_neg (by omega)])]
    have hs := sub_eq (lu.getD (uo + k) 0) (mulLo x d c) 0 (hz.getD _) (mulLo_word _ _ _) (.inl rfl)
    exact lin_take (mul_eq x d c) (by omega) rfl hval
/-- Behind the last word: b tells whether that was too much. -/
theorem TakeAt.done {w wr : World} {ub : Nat} {tu : TypeId} {lu : List Int} {uo n : Nat} {d X c : Int} (h : TakeAt w wr ub tu lu uo n d X c) (hk : uo + n < lu.length) (hz : Words lu) :
    SubAt w (wr.setCell ⟨ub,uo + n,none⟩ (.int .u64 (subLo (lu.getD (uo + n) 0) c 0))) ub tu lu uo (n + 1) (d * X) (subHi (lu.getD (uo + n) 0) c 0) := by
  obtain ⟨hc,lk,ha,hlen,hw,hrest,hval,hg⟩ := h
  refine ⟨subHi_bit _ _ _,_,ha.set _ _,by simp [hlen],hw.set _ (subLo_word _ _ _),?_,?_,grownBy_trans hg (grownBy_set _ _ _ _)⟩
  · intro j hj
    rw [getD_set _ _ _ _ (by omega),if_neg (by omega)]
    exact hrest j (by omega)
  · rw [seg_succ (by simp; omega),seg_succ hk,getD_set _ _ _ _ (by omega),if_pos rfl,
      seg_congr (l := lk.set (uo + n) _) (l' := lk) (by simp; omega) (by omega) (fun j h1 h2 => by rw [getD_set _ _ _ _ (by omega),if_neg (by omega)])]
    have hs := sub_eq (lu.getD (uo + n) 0) c 0 (hz.getD _) hc (.inl rfl)
    have := lin_sub (P := pw n) (B := 18446744073709551616) (lo := subLo (lu.getD (uo + n) 0) c 0) (hi := subHi (lu.getD (uo + n) 0) c 0) (z := lu.getD (uo + n) 0) (x := c) (c := 0) (s := seg lk uo n) (t := seg lu uo n) (X := d * X - pw n * c) (by omega) (by rw [Int.mul_comm c] at hval; omega)
    simp only [pw]
    omega
set_option maxRecDepth 100000 in
set_option maxHeartbeats 1000000 in
theorem subTimes_any (ub tu uo uc vb tv n vc : Nat) (lu lv : List Int) (d : Int) (w : World) (hu : Arr w ub tu .u64 lu) (hv : Arr w vb tv .u64 lv) (hne : vb ≠ ub) (hlu : uo + n + 1 ≤ lu.length) (hlv : n ≤ lv.length) (hm : n ≤ 4294967296) (hwu : Words lu) (hwv : Words lv) (hd : Word d) :
    Calls Tryz.prog 126 #[.slice (some ⟨ub,uo,none⟩) (n + 1) uc,.slice (some ⟨vb,0,none⟩) n vc,.int .u64 d] w fun e w' => ∃ b,e = .returned (.bool (decide (0 < b))) ∧ SubAt w w' ub tu lu uo (n + 1) (d * seg lv 0 n) b := by
  have Hd := Lib.hid hd
  clear hd
  go_enter Tryz.func126,Tryz.ntmps126
  go_wp2_with fail
  go_loopw [7,18] (fun c i wr => ∃ (k : Nat) (cv : Int),k ≤ n ∧ i = .int .i64 k ∧ c = .int .u64 cv ∧ TakeAt w wr ub tu lu uo k d (seg lv 0 k) cv) (fun _ i _ => n - (intOf i).toNat)
  case atStart => exact ⟨0,0,Nat.zero_le _,rfl,rfl,⟨by decide,by decide⟩,lu,hu,rfl,hwu,fun _ _ => rfl,by simp [seg_zero],grownBy_refl _ _⟩
  case round =>
    obtain ⟨k,cv,hk,rfl,rfl,hat⟩ := hrel
    by_cases hlt : k < n
    · have h2 := hat
      obtain ⟨hc,lk,ha,hlen,hw,hrest,hval,hg⟩ := h2
      have hcx := (hv.grown hg (by simp [hne])).cell k (by omega)
      have hcz := ha.cell (uo + k) (by omega)
      have hfz := ha.free (uo + k)
      rw [hrest _ (by omega)] at hcz
      have wx := hwv.getD k
      have wz := hwu.getD (uo + k)
      have st := hat.step (by omega) hwu Hd.out wx
      have tc := take_carry wz wx Hd.out hc
      have e1 : seg lv 0 k + pw k * lv.getD k 0 = seg lv 0 (k + 1) := by have := seg_succ (l := lv) (o := 0) (k := k) (by omega); rw [Nat.zero_add] at this; exact this.symm
      rw [e1] at st
      generalize lv.getD k 0 = x at hcx wx st tc
      generalize lu.getD (uo + k) 0 = z at hcz wz st tc
      have ma := fun w => mulAdd_any x d cv wx Hd.out hc w
      have lo := mulLo_word x d cv
      have hs := sub64' z (mulLo x d cv) 0 wz lo (.inl rfl)
      generalize mulLo x d cv = LO at ma lo hs st tc
      generalize mulHi x d cv = HI at ma st tc
      have e2 : IntKind.u64.wrap (HI + subHi z LO 0) = HI + subHi z LO 0 := by unfold Word at tc; rw [IntKind.wrap_u64]; omega
      generalize subLo z LO 0 = A at hs st
      generalize subHi z LO 0 = C at hs st tc e2
      have St := Lib.hid st
      have Ma := Lib.hid ma
      clear st ma lo wx wz hc hval hrest hat e1 tc
      go_wp2_with fail
      refine (Ma.out _).mono ?_
      rintro e w5 ⟨rfl,rfl⟩
      go_wp2_with fail
      exact ⟨⟨k + 1,_,by omega,by go_num,rfl,St.out⟩,by simp [intOf]; omega⟩
    · obtain rfl : k = n := by omega
      have h2 := hat
      obtain ⟨hc,lk,ha,hlen,hw,hrest,hval,hg⟩ := h2
      have hcz := ha.cell (uo + k) (by omega)
      have hfz := ha.free (uo + k)
      rw [hrest _ (by omega)] at hcz
      have wz := hwu.getD (uo + k)
      have st := hat.done (by omega) hwu
      generalize lu.getD (uo + k) 0 = z at hcz wz st
      have hs := sub64' z cv 0 wz hc (.inl rfl)
      generalize subLo z cv 0 = A at hs st
      generalize subHi z cv 0 = C at hs st
      have St := Lib.hid st
      clear st hval hrest hat hlt
      go_wp2_with fail
      go_ret
      exact ⟨C,rfl,St.out⟩
theorem shl_or {x c : Int} {S : Nat} (h : Word x) (hS : S ≤ 63) (h0 : 0 ≤ c) (hc : c < 2 ^ S) :
    bits .or .u64 (IntKind.u64.wrap (x * 2 ^ S)) c = IntKind.u64.wrap (x * 2 ^ S) + c ∧ Word (IntKind.u64.wrap (x * 2 ^ S) + c) := by
  obtain ⟨k1,k2,k3⟩ := shift_parts h hS
  have e : (2 : Int) ^ (64 - S) * 2 ^ S = 18446744073709551616 := by
    rw [← Int.pow_add,Nat.sub_add_cancel (by omega)]; decide
  have p2 : (0 : Int) < 2 ^ S := Int.pow_pos (by decide)
  have d1 := Int.mul_ediv_add_emod x (2 ^ (64 - S))
  have p1 : (0 : Int) < 2 ^ (64 - S) := Int.pow_pos (by decide)
  have d2 := Int.emod_nonneg x (show (2 : Int) ^ (64 - S) ≠ 0 by omega)
  have d3 := Int.emod_lt_of_pos x p1
  generalize x / 2 ^ (64 - S) = q at *
  generalize x % 2 ^ (64 - S) = r at *
  have e1 : x * 2 ^ S = q * 18446744073709551616 + r * 2 ^ S := by
    rw [← d1,Int.add_mul,Int.mul_comm _ q,Int.mul_assoc,e]
  have e2 : IntKind.u64.wrap (x * 2 ^ S) = r * 2 ^ S := by omega
  have e3 : r * 2 ^ S + 2 ^ S ≤ 18446744073709551616 := by
    have : (r + 1) * 2 ^ S ≤ 2 ^ (64 - S) * 2 ^ S := Int.mul_le_mul_of_nonneg_right (by omega) (by omega)
    rw [e,Int.add_mul,Int.one_mul] at this
    exact this
  have e4 : 0 ≤ r * 2 ^ S := Int.mul_nonneg d2 (by omega)
  rw [e2]
  exact ⟨or_shift d2 (by omega) (by omega) h0 hc,by omega,by omega⟩
/-- What has come of a shift up behind k words,c goes beyond. -/
def UpAt (w wr : World) (zb : Nat) (tz : TypeId) (lz lx : List Int) (zo k s : Nat) (c : Int) : Prop :=
  (0 ≤ c ∧ c < 2 ^ s) ∧ ∃ lk,Arr wr zb tz .u64 lk ∧ lk.length = lz.length ∧ Words lk ∧ (∀ j,j < zo ∨ zo + k ≤ j → lk.getD j 0 = lz.getD j 0) ∧ seg lk zo k + c * pw k = seg lx 0 k * 2 ^ s ∧ w.grownBy wr (some zb)
theorem lin_up {P B y c c' x s X T : Int} (h : y + B * c' = x * T + c) (hv : s + c * P = X * T) : s + P * y + c' * (B * P) = (X + P * x) * T := by
  have e1 : P * y + P * (B * c') = P * (x * T) + P * c := by rw [← Int.mul_add,h,Int.mul_add]
  have e2 : c' * (B * P) = P * (B * c') := by rw [Int.mul_left_comm,Int.mul_comm c' P,Int.mul_left_comm]
  have e3 : c * P = P * c := Int.mul_comm _ _
  rw [e2,Int.add_mul,Int.mul_assoc]; omega
theorem UpAt.step {w wr : World} {zb : Nat} {tz : TypeId} {lz lx : List Int} {zo k s : Nat} {c : Int} (h : UpAt w wr zb tz lz lx zo k s c) (hk : zo + k < lz.length) (hkx : k < lx.length) (hs : s ≤ 63) (hx : Words lx) :
    UpAt w (wr.setCell ⟨zb,zo + k,none⟩ (.int .u64 (IntKind.u64.wrap (lx.getD k 0 * 2 ^ s) + c))) zb tz lz lx zo (k + 1) s (lx.getD k 0 / 2 ^ (64 - s)) := by
  obtain ⟨hc,lk,ha,hlen,hw,hrest,hval,hg⟩ := h
  obtain ⟨k1,k2,k3⟩ := shift_parts (hx.getD k) hs
  refine ⟨⟨k2,k3⟩,_,ha.set _ _,by simp [hlen],hw.set _ (shl_or (hx.getD k) hs hc.1 hc.2).2,?_,?_,grownBy_trans hg (grownBy_set _ _ _ _)⟩
  · intro j hj
    rw [getD_set _ _ _ _ (by omega),if_neg (by omega)]
    exact hrest j (by omega)
  · rw [seg_succ (by simp; omega),seg_succ (l := lx) (by omega),Nat.zero_add,getD_set _ _ _ _ (by omega),if_pos rfl,
      seg_congr (l := lk.set (zo + k) _) (l' := lk) (by simp; omega) (by omega) (fun j h1 h2 => by rw [getD_set _ _ _ _ (by omega),if_neg (by omega)])]
    exact lin_up (by omega) hval
/-- Behind the last word: what goes beyond stands above. -/
theorem UpAt.done {w wr : World} {zb : Nat} {tz : TypeId} {lz lx : List Int} {zo n s : Nat} {c : Int} (h : UpAt w wr zb tz lz lx zo n s c) (hk : zo + n < lz.length) (hs : s ≤ 63) :
    ∃ lk,Arr (wr.setCell ⟨zb,zo + n,none⟩ (.int .u64 c)) zb tz .u64 lk ∧ lk.length = lz.length ∧ Words lk ∧ (∀ j,j < zo ∨ zo + (n + 1) ≤ j → lk.getD j 0 = lz.getD j 0) ∧ seg lk zo (n + 1) = seg lx 0 n * 2 ^ s ∧ w.grownBy (wr.setCell ⟨zb,zo + n,none⟩ (.int .u64 c)) (some zb) := by
  obtain ⟨hc,lk,ha,hlen,hw,hrest,hval,hg⟩ := h
  have h2 : (2 : Int) ^ s ≤ 2 ^ 63 := two_pow_mono hs
  refine ⟨_,ha.set _ _,by simp [hlen],hw.set _ ⟨hc.1,by have := hc.2; omega⟩,?_,?_,grownBy_trans hg (grownBy_set _ _ _ _)⟩
  · intro j hj
    rw [getD_set _ _ _ _ (by omega),if_neg (by omega)]
    exact hrest j (by omega)
  · rw [seg_succ (by simp; omega),getD_set _ _ _ _ (by omega),if_pos rfl,
      seg_congr (l := lk.set (zo + n) _) (l' := lk) (by simp; omega) (by omega) (fun j h1 h2 => by rw [getD_set _ _ _ _ (by omega),if_neg (by omega)])]
    rw [Int.mul_comm (pw n) c]; exact hval
set_option maxRecDepth 100000 in
set_option maxHeartbeats 1000000 in
theorem shiftUp_any (zb tz zo zl zc xb xc n s : Nat) (tx : TypeId) (lz lx : List Int) (w : World) (hz : Arr w zb tz .u64 lz) (hx : Arr w xb tx .u64 lx) (hne : xb ≠ zb) (hzl : n + 1 ≤ zl) (hlz : zo + zl ≤ lz.length) (hlx : n ≤ lx.length) (hm : zl ≤ 4294967296) (hwz : Words lz) (hwx : Words lx) (hs : s ≤ 63) :
    Calls Tryz.prog 124 #[.slice (some ⟨zb,zo,none⟩) zl zc,.slice (some ⟨xb,0,none⟩) n xc,.int .i64 s] w fun e w' => e = .returned (.tuple #[]) ∧
      ∃ lk,Arr w' zb tz .u64 lk ∧ lk.length = lz.length ∧ Words lk ∧ (∀ j,j < zo ∨ zo + (n + 1) ≤ j → lk.getD j 0 = lz.getD j 0) ∧ seg lk zo (n + 1) = seg lx 0 n * 2 ^ s ∧ w.grownBy w' (some zb) := by
  have q1 : (64 - (s : Int)).toNat = 64 - s := by omega
  go_enter Tryz.func124,Tryz.ntmps124
  go_wp2_with fail
  go_loopw [6,11] (fun c i wr => ∃ (k : Nat) (cv : Int),k ≤ n ∧ i = .int .i64 k ∧ c = .int .u64 cv ∧ UpAt w wr zb tz lz lx zo k s cv) (fun _ i _ => n - (intOf i).toNat)
  case atStart => exact ⟨0,0,Nat.zero_le _,rfl,rfl,⟨Int.le_refl _,Int.pow_pos (by decide)⟩,lz,hz,rfl,hwz,fun _ _ => rfl,by simp [seg_zero],grownBy_refl _ _⟩
  case round =>
    obtain ⟨k,cv,hk,rfl,rfl,hat⟩ := hrel
    by_cases hlt : k < n
    · have h2 := hat
      obtain ⟨hc,lk,ha,hlen,hw,hrest,hval,hg⟩ := h2
      have hcx := (hx.grown hg (by simp [hne])).cell k (by omega)
      have hcz := ha.cell (zo + k) (by omega)
      have hfz := ha.free (zo + k)
      rw [hrest _ (by omega)] at hcz
      have wx := hwx.getD k
      have so := shl_or wx hs hc.1 hc.2
      have st := hat.step (by omega) (by omega) hs hwx
      generalize lx.getD k 0 = x at hcx wx st so
      generalize lz.getD (zo + k) 0 = z at hcz
      obtain ⟨Y,hY⟩ : ∃ Y,IntKind.u64.wrap (x * 2 ^ s) + cv = Y := ⟨_,rfl⟩
      rw [hY] at so st
      obtain ⟨so1,so2⟩ := so
      have St := Lib.hid st
      clear st wx hc hval hrest hat hY so2
      go_wp2_with fail
      exact ⟨⟨k + 1,_,by omega,by go_num,rfl,St.out⟩,by simp [intOf]; omega⟩
    · obtain rfl : k = n := by omega
      have h2 := hat
      obtain ⟨hc,lk,ha,hlen,hw,hrest,hval,hg⟩ := h2
      have hcz := ha.cell (zo + k) (by omega)
      have hfz := ha.free (zo + k)
      rw [hrest _ (by omega)] at hcz
      generalize lz.getD (zo + k) 0 = z at hcz
      have St := Lib.hid (hat.done (by omega) hs)
      clear hval hrest hat hlt
      go_wp2_with fail
      go_end0
      exact ⟨rfl,St.out⟩
end Go.Proofs.YtgccgacpifebbaaGreatDoor
