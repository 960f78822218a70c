/- AddTo -/
import Derived.Test.YtgccgacpifebbaaGreatDoorZb02
import Derived.LoopTactic
import Derived.Shelf.Spec.BitsCarry
namespace Go.Proofs.YtgccgacpifebbaaGreatDoor
open Go.RowKit
set_option linter.unusedVariables false
def addLo (x y c : Int) : Int := (x + y + c) % 18446744073709551616
def addHi (x y c : Int) : Int := (x + y + c) / 18446744073709551616
theorem add64' (x y c : Int) (hx : Word x) (hy : Word y) (hc : c = 0 ∨ c = 1) (w : World) : (callFunc 81 #[.int .u64 x,.int .u64 y,.int .u64 c]).run Tryz.prog w =
    .ok (.value (.tuple #[.int .u64 (addLo x y c),.int .u64 (addHi x y c)])) w := add64 x y c hx.1 hy.1 (by omega) (by omega) w
theorem add_eq (x y c : Int) : addLo x y c + 18446744073709551616 * addHi x y c = x + y + c := by unfold addLo addHi; omega
theorem addLo_word (x y c : Int) : Word (addLo x y c) := by unfold addLo Word; omega
theorem addHi_bit {x y c : Int} (hx : Word x) (hy : Word y) (hc : c = 0 ∨ c = 1) : addHi x y c = 0 ∨ addHi x y c = 1 := by unfold addHi; unfold Word at hx hy; omega
theorem lin_add {P lo hi B z x c s t X : Int} (he : lo + B * hi = z + x + c) (hv : s + c * P = t + X) : s + P * lo + hi * (B * P) = t + P * z + (X + P * x) := by
  have h2 : P * lo + P * (B * hi) = P * z + P * x + P * c := by rw [← Int.mul_add,he,Int.mul_add,Int.mul_add]
  have h3 : hi * (B * P) = P * (B * hi) := by rw [← Int.mul_assoc,Int.mul_comm (hi * B) P,Int.mul_comm hi B]
  have h4 : c * P = P * c := Int.mul_comm _ _
  rw [h3]; omega
/-- What has become of row lz behind k rounds of adding,the carry c. -/
def AddAt (w wr : World) (zb : Nat) (tz : TypeId) (lz : List Int) (zo k : Nat) (X c : Int) : Prop :=
  (c = 0 ∨ c = 1) ∧ ∃ lk,Arr wr zb tz .u64 lk ∧ lk.length = lz.length ∧ Words lk ∧ (∀ j,j < zo ∨ zo + k ≤ j → lk.getD j 0 = lz.getD j 0) ∧ seg lk zo k + c * pw k = seg lz zo k + X ∧ w.grownBy wr (some zb)
theorem AddAt.step {w wr : World} {zb : Nat} {tz : TypeId} {lz : List Int} {zo k : Nat} {X c : Int} (h : AddAt w wr zb tz lz zo k X c) (hk : zo + k < lz.length) (hz : Words lz) {x : Int} (hx : Word x) :
    AddAt w (wr.setCell ⟨zb,zo + k,none⟩ (.int .u64 (addLo (lz.getD (zo + k) 0) x c))) zb tz lz zo (k + 1) (X + pw k * x) (addHi (lz.getD (zo + k) 0) x c) := by
  obtain ⟨hc,lk,ha,hlen,hw,hrest,hval,hg⟩ := h
  refine ⟨addHi_bit (hz.getD _) hx hc,_,ha.set _ _,by simp [hlen],hw.set _ (addLo_word _ _ _),?_,?_,grownBy_trans hg (grownBy_set _ _ _ _)⟩
  · intro j hj
    rw [getD_set _ _ _ _ (by omega),if_neg (by omega)]
    exact hrest j (by omega)
  · rw [seg_succ (by simp; omega),seg_succ hk,getD_set _ _ _ _ (by omega),if_pos rfl,
      seg_congr (l := lk.set (zo + k) _) (l' := lk) (by simp; omega) (by omega) (fun j h1 h2 => by rw [getD_set _ _ _ _ (by omega),if_neg (by omega)])]
    exact lin_add (add_eq _ _ _) hval
theorem AddAt.rest {w wr : World} {zb : Nat} {tz : TypeId} {lz : List Int} {zo k zl : Nat} {X : Int} (h : AddAt w wr zb tz lz zo k X 0) (hk : k ≤ zl) (hl : zo + zl ≤ lz.length) : AddAt w wr zb tz lz zo zl X 0 := by
  obtain ⟨hc,lk,ha,hlen,hw,hrest,hval,hg⟩ := h
  obtain ⟨m,rfl⟩ : ∃ m,zl = k + m := ⟨zl - k,by omega⟩
  refine ⟨.inl rfl,lk,ha,hlen,hw,fun j hj => hrest j (by omega),?_,hg⟩
  rw [seg_add (by omega),seg_add (by omega),seg_congr (l := lk) (l' := lz) (o := zo + k) (by omega) (by omega) (fun j h1 _ => hrest j (by omega))]
  omega
set_option maxHeartbeats 400000 in
theorem addTo_any (zb zo zl zc xb xo xl xc : Nat) (tz tx : TypeId) (lz lx : List Int) (w : World) (hz : Arr w zb tz .u64 lz) (hx : Arr w xb tx .u64 lx) (hne : xb ≠ zb)
    (hzl : zo + zl ≤ lz.length) (hxl : xo + xl ≤ lx.length) (hle : xl ≤ zl) (hm : zl ≤ 140737488355328) (hwz : Words lz) (hwx : Words lx) :
    Calls Tryz.prog 82 #[.slice (some ⟨zb,zo,none⟩) zl zc,.slice (some ⟨xb,xo,none⟩) xl xc] w fun e w' => e = .returned (.tuple #[]) ∧ ∃ c,AddAt w w' zb tz lz zo zl (seg lx xo xl) c := by
  go_enter Tryz.func82,Tryz.ntmps82
  go_wp2
  go_loopw [4,10] (fun c i wr => ∃ (k : Nat) (cv : Int),k ≤ xl ∧ i = .int .i64 k ∧ c = .int .u64 cv ∧ AddAt w wr zb tz lz zo k (seg lx xo k) cv) (fun _ i _ => xl - (intOf i).toNat)
  case atStart => exact ⟨0,0,Nat.zero_le _,rfl,rfl,.inl rfl,lz,hz,rfl,hwz,fun _ _ => rfl,by simp [seg_zero],grownBy_refl _ _⟩
  case round =>
    obtain ⟨k,cv,hk,rfl,rfl,hadd⟩ := hrel
    by_cases hlt : k < xl
    · have hz2 := hadd
      obtain ⟨hc,lk,ha,hlen,hw,hrest,hval,hg⟩ := hz2
      have hcx := (hx.grown hg (by simp [hne])).cell (xo + k) (by omega)
      have hcz := ha.cell (zo + k) (by omega)
      have hfz := ha.free (zo + k)
      rw [hrest _ (by omega)] at hcz
      have wx := hwx.getD (xo + k)
      have wz := hwz.getD (zo + k)
      have st := hadd.step (by omega) hwz wx
      rw [← seg_succ (by omega)] at st
      have St := Lib.hid st
      have Hc := Lib.hid hc
      generalize lx.getD (xo + k) 0 = x at hcx wx St
      generalize lz.getD (zo + k) 0 = z at hcz wz St
      clear hval hrest hc hadd st
      go_wp2_with (simp only [add64' _ _ _ wz wx Hc.out])
      exact ⟨⟨k + 1,_,by omega,by go_num,rfl,St.out⟩,by simp [intOf]; omega⟩
    · obtain rfl : k = xl := by omega
      have hlt' : ¬ k < k := Nat.lt_irrefl _
      clear hlt
      go_wp2
      go_loopw [4,7] (fun c i wr => ∃ (m : Nat) (cv : Int),m ≤ zl ∧ i = .int .i64 m ∧ c = .int .u64 cv ∧ AddAt w wr zb tz lz zo m (seg lx xo k) cv) (fun _ i _ => zl - (intOf i).toNat)
      case atStart => exact ⟨k,cv,hle,rfl,rfl,hadd⟩
      case round =>
        clear hadd
        obtain ⟨m,cv,hm1,rfl,rfl,hadd⟩ := hrel
        have hz2 := hadd
        obtain ⟨hc,lk,ha,hlen,hw,hrest,hval,hg⟩ := hz2
        rcases hc with rfl | rfl
        · have st := hadd.rest hm1 hzl
          clear hadd hval hrest
          go_wp2
          go_end0
          exact ⟨rfl,_,st⟩
        · by_cases hlt : m < zl
          · have hcz := ha.cell (zo + m) (by omega)
            have hfz := ha.free (zo + m)
            rw [hrest _ (by omega)] at hcz
            have wz := hwz.getD (zo + m)
            have st := hadd.step (by omega) hwz (x := 0) ⟨by decide,by decide⟩
            rw [Int.mul_zero,Int.add_zero] at st
            have St := Lib.hid st
            generalize lz.getD (zo + m) 0 = z at hcz wz St
            clear hval hrest hadd st
            go_wp2_with (simp only [add64' _ _ _ wz (show Word 0 from ⟨by decide,by decide⟩) (show (1 : Int) = 0 ∨ (1 : Int) = 1 from .inr rfl)])
            exact ⟨⟨m + 1,_,by omega,by go_num,rfl,St.out⟩,by simp [intOf]; omega⟩
          · obtain rfl : m = zl := by omega
            have hlt' : ¬ m < m := Nat.lt_irrefl _
            clear hlt hval hrest
            go_wp2
            go_end0
            exact ⟨rfl,_,hadd⟩
end Go.Proofs.YtgccgacpifebbaaGreatDoor
namespace Go.Proofs.YtgccgacpifebbaaGreatDoor
open Go.RowKit
set_option linter.unusedVariables false
def subLo (x y c : Int) : Int := (x - y - c) % 18446744073709551616
def subHi (x y c : Int) : Int := if x < y + c then 1 else 0
theorem sub64' (x y c : Int) (hx : Word x) (hy : Word y) (hc : c = 0 ∨ c = 1) (w : World) : (callFunc 112 #[.int .u64 x,.int .u64 y,.int .u64 c]).run Tryz.prog w =
    .ok (.value (.tuple #[.int .u64 (subLo x y c),.int .u64 (subHi x y c)])) w := by
  obtain ⟨X,rfl⟩ := Int.eq_ofNat_of_zero_le hx.1
  obtain ⟨Y,rfl⟩ := Int.eq_ofNat_of_zero_le hy.1
  obtain ⟨C,rfl⟩ := Int.eq_ofNat_of_zero_le (show 0 ≤ c by omega)
  rw [run_callFunc_extern Tryz.func112 (by kernel_rfl) (by kernel_rfl) (by kernel_rfl) (e := sub64Entry) (by kernel_rfl),run_sub64 X Y C (by omega)]
  have h1 : (((X + 18446744073709551616 - Y - C) % 18446744073709551616 : Nat) : Int) = subLo X Y C := by unfold subLo; unfold Word at hx hy; omega
  have h2 : ((if X < Y + C then 1 else 0 : Nat) : Int) = subHi X Y C := by unfold subHi; split <;> split <;> omega
  rw [h1,h2]
  rfl
theorem sub_eq (x y c : Int) (hx : Word x) (hy : Word y) (hc : c = 0 ∨ c = 1) : subLo x y c + y + c = x + 18446744073709551616 * subHi x y c := by unfold subLo subHi; unfold Word at hx hy; split <;> omega
theorem subLo_word (x y c : Int) : Word (subLo x y c) := by unfold subLo Word; omega
theorem subHi_bit (x y c : Int) : subHi x y c = 0 ∨ subHi x y c = 1 := by unfold subHi; split <;> simp
theorem lin_sub {P lo hi B z x c s t X : Int} (he : lo + x + c = z + B * hi) (hv : s + X = t + c * P) : s + P * lo + (X + P * x) = t + P * z + hi * (B * P) := by
  have h2 : P * lo + P * x + P * c = P * z + P * (B * hi) := by rw [← Int.mul_add,← Int.mul_add,he,Int.mul_add]
  have h3 : hi * (B * P) = P * (B * hi) := by rw [← Int.mul_assoc,Int.mul_comm (hi * B) P,Int.mul_comm hi B]
  have h4 : c * P = P * c := Int.mul_comm _ _
  rw [h3]; omega
/-- What has become of row lz behind k rounds of taking away,the borrow c. -/
def SubAt (w wr : World) (zb : Nat) (tz : TypeId) (lz : List Int) (zo k : Nat) (X c : Int) : Prop :=
  (c = 0 ∨ c = 1) ∧ ∃ lk,Arr wr zb tz .u64 lk ∧ lk.length = lz.length ∧ Words lk ∧ (∀ j,j < zo ∨ zo + k ≤ j → lk.getD j 0 = lz.getD j 0) ∧ seg lk zo k + X = seg lz zo k + c * pw k ∧ w.grownBy wr (some zb)
theorem SubAt.step {w wr : World} {zb : Nat} {tz : TypeId} {lz : List Int} {zo k : Nat} {X c : Int} (h : SubAt w wr zb tz lz zo k X c) (hk : zo + k < lz.length) (hz : Words lz) {x : Int} (hx : Word x) :
    SubAt w (wr.setCell ⟨zb,zo + k,none⟩ (.int .u64 (subLo (lz.getD (zo + k) 0) x c))) zb tz lz zo (k + 1) (X + pw k * x) (subHi (lz.getD (zo + k) 0) x c) := by
  obtain ⟨hc,lk,ha,hlen,hw,hrest,hval,hg⟩ := h
  refine ⟨subHi_bit _ _ _,_,ha.set _ _,by simp [hlen],hw.set _ (subLo_word _ _ _),?_,?_,grownBy_trans hg (grownBy_set _ _ _ _)⟩
  · intro j hj
    rw [getD_set _ _ _ _ (by omega),if_neg (by omega)]
    exact hrest j (by omega)
  · rw [seg_succ (by simp; omega),seg_succ hk,getD_set _ _ _ _ (by omega),if_pos rfl,
      seg_congr (l := lk.set (zo + k) _) (l' := lk) (by simp; omega) (by omega) (fun j h1 h2 => by rw [getD_set _ _ _ _ (by omega),if_neg (by omega)])]
    exact lin_sub (sub_eq _ _ _ (hz.getD _) hx hc) hval
theorem SubAt.rest {w wr : World} {zb : Nat} {tz : TypeId} {lz : List Int} {zo k zl : Nat} {X : Int} (h : SubAt w wr zb tz lz zo k X 0) (hk : k ≤ zl) (hl : zo + zl ≤ lz.length) : SubAt w wr zb tz lz zo zl X 0 := by
  obtain ⟨hc,lk,ha,hlen,hw,hrest,hval,hg⟩ := h
  obtain ⟨m,rfl⟩ : ∃ m,zl = k + m := ⟨zl - k,by omega⟩
  refine ⟨.inl rfl,lk,ha,hlen,hw,fun j hj => hrest j (by omega),?_,hg⟩
  rw [seg_add (by omega),seg_add (by omega),seg_congr (l := lk) (l' := lz) (o := zo + k) (by omega) (by omega) (fun j h1 _ => hrest j (by omega))]
  omega
/-- No borrow is left where what is taken away is not more. -/
theorem SubAt.none {w wr : World} {zb : Nat} {tz : TypeId} {lz : List Int} {zo zl : Nat} {X c : Int} (h : SubAt w wr zb tz lz zo zl X c) (hl : zo + zl ≤ lz.length) (hX : X ≤ seg lz zo zl) : c = 0 := by
  obtain ⟨hc,lk,ha,hlen,hw,hrest,hval,hg⟩ := h
  have := seg_bd hw zo zl (by omega)
  rcases hc with rfl | rfl
  · rfl
  · omega
set_option maxHeartbeats 400000 in
theorem subFrom_any (zb zo zl zc xb xo xl xc : Nat) (tz tx : TypeId) (lz lx : List Int) (w : World) (hz : Arr w zb tz .u64 lz) (hx : Arr w xb tx .u64 lx) (hne : xb ≠ zb)
    (hzl : zo + zl ≤ lz.length) (hxl : xo + xl ≤ lx.length) (hle : xl ≤ zl) (hm : zl ≤ 140737488355328) (hwz : Words lz) (hwx : Words lx) (hX : seg lx xo xl ≤ seg lz zo zl) :
    Calls Tryz.prog 84 #[.slice (some ⟨zb,zo,none⟩) zl zc,.slice (some ⟨xb,xo,none⟩) xl xc] w fun e w' => e = .returned (.tuple #[]) ∧ SubAt w w' zb tz lz zo zl (seg lx xo xl) 0 := by
  have HX := Lib.hid hX
  clear hX
  go_enter Tryz.func84,Tryz.ntmps84
  go_wp2
  go_loopw [4,10] (fun c i wr => ∃ (k : Nat) (cv : Int),k ≤ xl ∧ i = .int .i64 k ∧ c = .int .u64 cv ∧ SubAt w wr zb tz lz zo k (seg lx xo k) cv) (fun _ i _ => xl - (intOf i).toNat)
  case atStart => exact ⟨0,0,Nat.zero_le _,rfl,rfl,.inl rfl,lz,hz,rfl,hwz,fun _ _ => rfl,by simp [seg_zero],grownBy_refl _ _⟩
  case round =>
    obtain ⟨k,cv,hk,rfl,rfl,hadd⟩ := hrel
    by_cases hlt : k < xl
    · have hz2 := hadd
      obtain ⟨hc,lk,ha,hlen,hw,hrest,hval,hg⟩ := hz2
      have hcx := (hx.grown hg (by simp [hne])).cell (xo + k) (by omega)
      have hcz := ha.cell (zo + k) (by omega)
      have hfz := ha.free (zo + k)
      rw [hrest _ (by omega)] at hcz
      have wx := hwx.getD (xo + k)
      have wz := hwz.getD (zo + k)
      have st := hadd.step (by omega) hwz wx
      rw [← seg_succ (by omega)] at st
      have St := Lib.hid st
      have Hc := Lib.hid hc
      generalize lx.getD (xo + k) 0 = x at hcx wx St
      generalize lz.getD (zo + k) 0 = z at hcz wz St
      clear hval hrest hc hadd st
      go_wp2_with (simp only [sub64' _ _ _ wz wx Hc.out])
      exact ⟨⟨k + 1,_,by omega,by go_num,rfl,St.out⟩,by simp [intOf]; omega⟩
    · obtain rfl : k = xl := by omega
      have hlt' : ¬ k < k := Nat.lt_irrefl _
      clear hlt
      go_wp2
      go_loopw [4,7] (fun c i wr => ∃ (m : Nat) (cv : Int),m ≤ zl ∧ i = .int .i64 m ∧ c = .int .u64 cv ∧ SubAt w wr zb tz lz zo m (seg lx xo k) cv) (fun _ i _ => zl - (intOf i).toNat)
      case atStart => exact ⟨k,cv,hle,rfl,rfl,hadd⟩
      case round =>
        clear hadd
        obtain ⟨m,cv,hm1,rfl,rfl,hadd⟩ := hrel
        have hz2 := hadd
        obtain ⟨hc,lk,ha,hlen,hw,hrest,hval,hg⟩ := hz2
        rcases hc with rfl | rfl
        · have st := hadd.rest hm1 hzl
          clear hadd hval hrest
          go_wp2
          go_end0
          exact ⟨rfl,st⟩
        · have hlt : m < zl := by
            by_cases hc : m < zl
            · exact hc
            · obtain rfl : m = zl := by omega
              exact absurd (hadd.none hzl HX.out) (by decide)
          have hcz := ha.cell (zo + m) (by omega)
          have hfz := ha.free (zo + m)
          rw [hrest _ (by omega)] at hcz
          have wz := hwz.getD (zo + m)
          have st := hadd.step (by omega) hwz (x := 0) ⟨by decide,by decide⟩
          rw [Int.mul_zero,Int.add_zero] at st
          have St := Lib.hid st
          generalize lz.getD (zo + m) 0 = z at hcz wz St
          clear hval hrest hadd st
          go_wp2_with (simp only [sub64' _ _ _ wz (show Word 0 from ⟨by decide,by decide⟩) (show (1 : Int) = 0 ∨ (1 : Int) = 1 from .inr rfl)])
          exact ⟨⟨m + 1,_,by omega,by go_num,rfl,St.out⟩,by simp [intOf]; omega⟩
end Go.Proofs.YtgccgacpifebbaaGreatDoor
